/- The matcher: an alternative, a repetition walked, in memory. -/
import Derived.Test.YtcgondjekpcpgaaDoorPCt
namespace Go.Proofs.YtcgondjekpcpgaaDoor.Sy.Lg.Wl
open Go.RowKit Go.Proofs.YtcgondjekpcpgaaDoor.Sy.Ap Go.Proofs.YtcgondjekpcpgaaDoor.Sy.Ap.Wk Go.Proofs.YtcgondjekpcpgaaDoor.Sy.Lg.Oq
set_option maxRecDepth 100000
set_option linter.unusedVariables false

theorem FS.toF {M : MC} {F G : Nat → Prop} {w : World} {L : List Row3} {v : Value} {X : Nat → Prop} {u : World} (h : FS M F w L v X u) (hG : ∀ k, G k → F k) : FS M G w L v X u := by
  obtain ⟨cs, ms, hm⟩ := h.mi
  exact ⟨⟨cs, ms, hm.less fun k hk => .inl (hG k hk)⟩, h.keep, h.rows, h.pl, fun b hb hg => h.off b hb (hG b hg), h.lo⟩
set_option maxHeartbeats 2000000 in
theorem walk_alt {M : MC} (hM : M.Ok) {k : Nat} {g : Gd} {n : Nd} {kA : Option Addr} (hN : NodeAt M k g n kA) (mm kc : Nat) (hmm : n.l.length = mm) (hE : ∀ c, c < k → EndsC M c) (h4 : n.op = 4) : WalkC M k g kA mm kc := by
  intro F u v X h
  have hop : Hid (g.op = 4) := by have ho := hN.gn.op; rw [h4] at ho; exact ho
  obtain ⟨A9, n9, c9, rfl⟩ := h.pl.form
  have hfl := h.fl
  have F0 := FS.start h
  have hB := F0.lo
  have hX := h.le
  clear h
  go_enter Tryd.func47, Tryd.ntmps47
  go_upto_region 1 with fail
  have F1 := F0.three 43 (by decide) (by decide) (ndC g kA mm kc) #[.int .i64 0, .slice A9 n9 c9] #[.int .i64 0, .slice none 0 0]
  generalize ((u.alloc (.cells (ndC g kA mm kc) 43)).alloc (.cells #[.int .i64 0, .slice A9 n9 c9] 58)).alloc (.cells #[.int .i64 0, .slice none 0 0] 58) = u1 at *
  have d0 : u1.cell? ⟨u.heap.size, 0, none⟩ = some (.int .u8 g.op) := F1.r0.at_ rfl
  clear F0
  rw [hop.out] at d0
  have hm5 : u1.cell? ⟨u.heap.size, 5, none⟩ = some (.slice kA mm kc) := F1.r0.at_ rfl
  have F2 := F1.new 58 #[.int .i64 0, .slice none 0 0] (by decide) (by decide)
  have hq9 : u.heap.size + 1 + 1 < u1.heap.size := F1.r2.lt
  have O2 : OpS M F u.heap.size u [(u.heap.size, 43, ndC g kA mm kc), (u.heap.size + 1, 58, #[.int .i64 0, .slice A9 n9 c9]), (u.heap.size + 1 + 1, 58, #[.int .i64 0, .slice none 0 0])] u1.heap.size (.slice none 0 0) noB (.agg #[.int .i64 0, .slice A9 n9 c9]) X (u1.alloc (.cells #[.int .i64 0, .slice none 0 0] 58)) := by
    refine ⟨FS.toF (F2.sub (fun x hx => by simp at hx ⊢; rcases hx with e | e | e <;> simp [e])) (fun k hk => ?_), ⟨F2.r0, (fun i hi => by cases hi), .inl ⟨rfl, fun i => rfl⟩⟩, by omega, hB, fun x hx => ?_⟩
    · rcases hk with hk | hk
      · exact hk
      · cases hk
    · simp at hx
      rcases hx with e | e | e <;> (subst e; simp; omega)
  have HO2 := hidd O2
  have HX := hidd hX
  have HFL := hidd hfl
  have HE := hidd hE
  have HN := hidd hN
  have HMM := hidd hmm
  have hml : mm ≤ 1024 := by rw [← hmm]; exact hN.few
  have hm6 : (u1.alloc (.cells #[.int .i64 0, .slice none 0 0] 58)).cell? ⟨u.heap.size, 5, none⟩ = some (.slice kA mm kc) := F2.r1.at_ rfl
  clear F1 F2 O2 hX hfl hE hN hmm
  go_upto_region 13 with fail
  generalize u1.alloc (.cells #[.int .i64 0, .slice none 0 0] 58) = u2 at *
  clear hm5 d0
  obtain ⟨q9, hq⟩ : ∃ q9, u1.heap.size = q9 := ⟨_, rfl⟩
  rw [hq] at HO2 hq9
  rw [hq]
  clear hq
  go_wp2
  go_loopw [41] (fun s41 wr => ∃ (i : Nat) (sv : Value) (p : Nat → Bool), s41 = .int .i64 (i : Int) ∧ i ≤ mm ∧ OpS M F u.heap.size u [(u.heap.size, 43, ndC g kA mm kc), (u.heap.size + 1, 58, #[.int .i64 0, .slice A9 n9 c9]), (u.heap.size + 1 + 1, 58, #[.int .i64 0, .slice none 0 0])] q9 sv p (.agg #[.int .i64 0, .slice A9 n9 c9]) X wr ∧ ∀ j, p j = true ↔ ∃ c ∈ n.l.take i, img (M.R c) X j) (fun s41 _ => mm - (intOf s41).toNat)
  case atStart => exact ⟨0, _, _, rfl, Nat.zero_le _, HO2.out, fun j => ⟨(fun h => by cases h), fun ⟨c, hc, _⟩ => by cases hc⟩⟩
  case round =>
    clear HO2 hm6
    obtain ⟨i, sv, p, rfl, hi, hO, hp⟩ := hrel
    by_cases hlt : i < mm
    · obtain ⟨b, o, rfl, hkb, hkc⟩ := HN.out.kid i (by rw [HMM.out]; exact hlt)
      have hcl := hO.fs.kid hkb hkc
      have hii : (i : Int) < (mm : Int) := by omega
      have hmem : n.l.getD i 0 ∈ n.l := by
        have : i < n.l.length := by rw [HMM.out]; exact hlt
        rw [List.getD_eq_getElem?_getD, List.getElem?_eq_getElem this]
        exact List.getElem_mem this
      have hen := HE.out _ (HN.out.low hM _ hmem) (Fo F sv) wr _ _ ⟨hO.fs.mi, (fun f hf => by
        rcases hf with hf | hf
        · exact Nat.lt_of_lt_of_le (HFL.out f hf) hO.fs.keep.size
        · exact hO.own_lt f hf), hO.fs.pl, hO.fs.off, HX.out⟩
      have HTK : Hid (n.l.take (i + 1) = n.l.take i ++ [n.l.getD i 0]) := take_next (by rw [HMM.out]; exact hlt)
      have rr1 := pl_range hO.fs.r1
      have HO := hidd hO
      have HP := hidd hp
      clear hmem hO hp
      generalize n.l.getD i 0 = x at *
      go_wp2_with (refine wpList_load_mid rfl 58 (.tmp 5) rfl (u.heap.size + 1) 0 rfl [.int .i64 0, .slice A9 n9 c9] _ rr1 Tryd.underlying58 rfl (pl_info _ _) ?_)
      refine hen.mono ?_
      rintro e w2 ⟨v2, rfl, hm2, hk2, ⟨p3, hp3, hx3⟩, ho2⟩
      have O3 := HO.out.step hm2 hk2
      have hjo := Jo.join_any u.heap.size w2 q9 sv p p3 _ O3.pb O3.fs.keep.size hp3 (fun b hb => ⟨hp3.off O3.pb.1 rfl (fun x q => by cases q) hb, fun q => ho2 b hb (.inr q)⟩)
      have HO3 := hidd O3
      clear hen rr1 O3 hm2 hk2 hp3 ho2
      go_wp2_with fail
      refine hjo.mono ?_
      intro e w3 h7
      obtain ⟨rfl, sv7, O7⟩ := HO3.out.more (Nat.le_refl _) (fun x hx => by
        simp at hx
        rcases hx with e | e | e
        · subst e; exact (show (43 : TypeId) ≠ 39 by decide)
        · subst e; exact (show (58 : TypeId) ≠ 39 by decide)
        · subst e; exact (show (58 : TypeId) ≠ 39 by decide)) h7
      have HO7 := hidd O7
      have HPN : Hid (∀ j, orB p p3 j = true ↔ ∃ c ∈ n.l.take (i + 1), img (M.R c) X j) := fun j => by
        rw [HTK.out]
        unfold orB
        rw [Bool.or_eq_true, HP.out j, hx3 j]
        constructor
        · rintro (⟨c, q1, q2⟩ | q)
          · exact ⟨c, List.mem_append_left _ q1, q2⟩
          · exact ⟨x, by simp, q⟩
        · rintro ⟨c, q1, q2⟩
          rcases List.mem_append.1 q1 with q1 | q1
          · exact .inl ⟨c, q1, q2⟩
          · rw [List.mem_singleton] at q1
            exact .inr (q1 ▸ q2)
      clear hjo O7 h7 hx3
      go_wp2
      exact ⟨⟨i + 1, sv7, orB p p3, rfl, by omega, HO7.out, HPN.out⟩, by simp [intOf]; omega⟩
    · have HY : Hid (∀ j, p j = true ↔ img (M.R k) X j) := fun j => by
        rw [hp j, List.take_of_length_le (by rw [HMM.out]; omega)]
        have e : ∀ i, M.R k i j ↔ ∃ c ∈ n.l, Mt M.ns (bs M.s) c i j := fun i => by
          rw [HN.out.eq hM]
          unfold node1
          rw [if_neg (by omega), if_neg (by omega), if_pos h4]
        constructor
        · rintro ⟨c, q1, x, q2, q3⟩; exact ⟨x, q2, (e x).2 ⟨c, q1, q3⟩⟩
        · rintro ⟨x, q1, q2⟩
          obtain ⟨c, q3, q4⟩ := (e x).1 q2
          exact ⟨c, q3, x, q1, q4⟩
      have him : i = mm := by omega
      obtain ⟨A8, n8, c8, e8⟩ := pl_form hO.pb.pl
      have e8 := agg2_inj e8
      subst e8
      have R6 := hO.fs.r2
      have rr8 := pl_range hO.pb.1
      have HFIN : Hid (RetQ M F u (img (M.R k) X) (.returned (.agg #[.int .i64 0, .slice A8 n8 c8])) (wr.setRow (u.heap.size + 1 + 1) #[.int .i64 0, .slice A8 n8 c8])) := hO.done HFL.out (by omega) (by simp; omega) (by simp) rfl HY.out
      have HRF := hidd (R6.row #[.int .i64 0, .slice A8 n8 c8])
      clear hO hp h4
      subst him
      go_wp2_with (first
        | refine wpList_load_mid rfl 58 (.tmp 9) rfl q9 0 rfl [.int .i64 0, .slice A8 n8 c8] _ rr8 Tryd.underlying58 rfl (pl_info _ _) ?_
        | refine wpList_store_row rfl 58 (.tmp 6) (.tmp 51) rfl (u.heap.size + 1 + 1) #[.int .i64 0, .slice A8 n8 c8] rfl rfl 58 #[.int .i64 0, .slice none 0 0] R6 (pl_info _ _) rfl (ones2 rfl rfl) ?_)
      exact ret_places Tryd.results47 rfl HRF.out rfl HFIN.out
/-! ### A repetition -/
theorem shp_rep2 {n : Nd} (h : shapeB n = true) (h5 : n.op = 5) : n.l.length = 1 ∧ 0 ≤ n.lo ∧ n.lo ≤ 4096 ∧ (n.hi = -1 ∨ (n.lo ≤ n.hi ∧ n.hi ≤ 4096)) := by
  unfold shapeB at h
  rw [if_neg (by omega), if_neg (by omega), if_neg (by omega), if_pos h5] at h
  simp only [Bool.and_eq_true, beq_iff_eq, decide_eq_true_eq, Bool.or_eq_true] at h
  obtain ⟨⟨⟨⟨_, h1⟩, h2⟩, h3⟩, h4⟩ := h
  refine ⟨h1, h2, h3, ?_⟩
  rcases h4 with h4 | ⟨⟨_, h5⟩, h6⟩
  · exact .inl h4
  · exact .inr ⟨h6, h5⟩
theorem rep_img {M : MC} (hM : M.Ok) {k c : Nat} {g : Gd} {n : Nd} {kA : Option Addr} (hN : NodeAt M k g n kA) (h5 : n.op = 5) (hc : n.l = [c]) (hlo : 0 ≤ n.lo) (hhi : n.hi = -1 ∨ (n.lo ≤ n.hi ∧ n.hi ≤ 4096)) (X : Nat → Prop) (hX : ∀ j, X j → j ≤ M.s.size) (j : Nat) :
    img (upR (M.R c) (if n.hi < 0 then M.s.size else (n.hi - n.lo).toNat)) (img (powR (M.R c) n.lo.toNat) X) j ↔ img (M.R k) X j := by
  have e : ∀ i, M.R k i j ↔ repR (M.R c) n.lo n.hi i j := fun i => by
    rw [hN.eq hM]
    unfold node1
    rw [if_neg (by omega), if_neg (by omega), if_neg (by omega), if_pos h5, hc]
    exact Iff.rfl
  have e2 : img (M.R k) X j ↔ img (repR (M.R c) n.lo n.hi) X j := by
    constructor
    · rintro ⟨x, q1, q2⟩; exact ⟨x, q1, (e x).1 q2⟩
    · rintro ⟨x, q1, q2⟩; exact ⟨x, q1, (e x).2 q2⟩
  rw [e2]
  obtain ⟨lo, hlo2⟩ : ∃ lo : Nat, n.lo = (lo : Int) := ⟨n.lo.toNat, by omega⟩
  rw [hlo2, Int.toNat_natCast]
  by_cases hneg : n.hi < 0
  · rw [if_pos hneg, img_rep_end hneg]
    exact (up_all (R_in hM c) (fun j hj => by
      obtain ⟨i, q1, q2⟩ := hj
      exact powR_le (N := M.s.size) (R_in hM c) lo i j q2 (hX i q1)) j).symm
  · obtain ⟨hi, hhi2⟩ : ∃ hi : Nat, n.hi = (hi : Int) := ⟨n.hi.toNat, by omega⟩
    rw [if_neg hneg, hhi2, img_rep (by omega)]
    rw [show ((hi : Int) - (lo : Int)).toNat = hi - lo from by omega]
set_option linter.unusedVariables false in
def RpGV (M : MC) (F : Nat → Prop) (Y : Nat → Prop) (n0 : Nat) (g : Gd) (kA : Option Addr) (mm kc : Nat) (vv : Value) (t : Nat) : Option Value :=
  match t with
  | 0 => some (.pointer (some ⟨M.mq, 0, none⟩))
  | 4 => some (.pointer (some ⟨n0, 0, none⟩))
  | 5 => some (.pointer (some ⟨n0 + 1, 0, none⟩))
  | 54 => some (.pointer (some ⟨M.mq, 0, none⟩))
  | 55 => some (.agg #[.int .u8 g.op, .int .u64 (W g.s 0), .int .u64 (W g.s 1), .int .u64 (W g.s 2), .int .u64 (W g.s 3), .slice kA mm kc, .int .i64 g.lo, .int .i64 g.hi, .string g.nm])
  | 56 => some (.pointer (some ⟨M.mq, 0, none⟩))
  | 57 => some (.agg #[.int .u8 g.op, .int .u64 (W g.s 0), .int .u64 (W g.s 1), .int .u64 (W g.s 2), .int .u64 (W g.s 3), .slice kA mm kc, .int .i64 g.lo, .int .i64 g.hi, .string g.nm])
  | 58 => some (vv)
  | _ => none
set_option linter.unusedVariables false in
def RpGP (M : MC) (F : Nat → Prop) (Y : Nat → Prop) (n0 : Nat) (g : Gd) (kA : Option Addr) (mm kc : Nat) (vv : Value) (t : Nat) : Option (Value → World → Prop) :=
  match t with
  | 59 => some (PlO F Y)
  | _ => none
def RpG (M : MC) (F : Nat → Prop) (Y : Nat → Prop) (n0 : Nat) (g : Gd) (kA : Option Addr) (mm kc : Nat) (vv : Value) (t : Nat) (v : Value) (u : World) : Prop := (∀ z9, RpGV M F Y n0 g kA mm kc vv t = some z9 → v = z9) ∧ ∀ R, RpGP M F Y n0 g kA mm kc vv t = some R → R v u
set_option maxHeartbeats 2000000 in
theorem walk_rep {M : MC} (hM : M.Ok) {k : Nat} {g : Gd} {n : Nd} {kA : Option Addr} (hN : NodeAt M k g n kA) (mm kc : Nat) (hmm : n.l.length = mm) (hE : ∀ c, c < k → EndsC M c) (h5 : n.op = 5) : WalkC M k g kA mm kc := by
  obtain ⟨s1, s2, s3, s4⟩ := shp_rep2 (hN.shp hM) h5
  obtain rfl : mm = 1 := by omega
  obtain ⟨c, hc⟩ := List.length_eq_one_iff.1 s1
  have hkid : KidAt M kA 0 c := by
    have := hN.kid 0 (by omega)
    rw [hc] at this
    exact this
  have hEc := hE c (hN.low hM c (by rw [hc]; simp))
  have glo := hN.gn.lo
  have ghi := hN.gn.hi
  intro F u v X h
  have hIMG : Hid (∀ j, img (upR (M.R c) (if g.hi < 0 then M.s.size else (g.hi - g.lo).toNat)) (img (powR (M.R c) g.lo.toNat) X) j ↔ img (M.R k) X j) := fun j => by
    rw [glo, ghi]
    exact rep_img hM hN h5 hc s2 s4 X h.le j
  rw [← glo] at s2 s3
  rw [← glo, ← ghi] at s4
  have hop : Hid (g.op = 5) := by have ho := hN.gn.op; rw [h5] at ho; exact ho
  clear glo ghi h5 hN hE hc s1 hmm
  generalize hmm1 : (1 : Nat) = mm1 at *
  subst hmm1
  have HS := hidd (And.intro s2 (And.intro s3 s4))
  clear s2 s3 s4
  obtain ⟨A9, n9, c9, rfl⟩ := h.pl.form
  have hfl := h.fl
  have F0 := FS.start h
  have hB := F0.lo
  have hX := h.le
  clear h
  go_enter Tryd.func47, Tryd.ntmps47
  go_upto_region 1 with fail
  have F1 := F0.three 43 (by decide) (by decide) (ndC g kA 1 kc) #[.int .i64 0, .slice A9 n9 c9] #[.int .i64 0, .slice none 0 0]
  generalize ((u.alloc (.cells (ndC g kA 1 kc) 43)).alloc (.cells #[.int .i64 0, .slice A9 n9 c9] 58)).alloc (.cells #[.int .i64 0, .slice none 0 0] 58) = u1 at *
  have d0 : u1.cell? ⟨u.heap.size, 0, none⟩ = some (.int .u8 g.op) := F1.r0.at_ rfl
  clear F0
  rw [hop.out] at d0
  have hS0 := F1.again
  have hfl1 : ∀ f, F f → f < u1.heap.size := fun f q => Nat.lt_of_lt_of_le (hfl f q) F1.keep.size
  have hnd : ∀ u', FS M F u1 [(u.heap.size, 43, ndC g kA 1 kc), (u.heap.size + 1, 58, #[.int .i64 0, .slice A9 n9 c9]), (u.heap.size + 1 + 1, 58, #[.int .i64 0, .slice none 0 0])] (.agg #[.int .i64 0, .slice A9 n9 c9]) X u' → Calls Tryd.prog 66 #[.pointer (some ⟨M.mq, 0, none⟩), .agg #[.int .u8 g.op, .int .u64 (W g.s 0), .int .u64 (W g.s 1), .int .u64 (W g.s 2), .int .u64 (W g.s 3), .slice kA 1 kc, .int .i64 g.lo, .int .i64 g.hi, .string g.nm], .agg #[.int .i64 0, .slice A9 n9 c9]] u' (RetQ M F u' (img (powR (M.R c) g.lo.toNat) X)) := fun u' hS => Ne.needed_any hM hEc g kA kc hkid HS.out.1 HS.out.2.1 (R_in hM c) F u' _ X (hS.inp hfl1 hX)
  have HF1 := hidd F1
  clear F1
  go_upto_region 20 with fail
  refine wp_region_slotsH 6 (by decide) (by kernel_rfl) (by kernel_rfl) (fun _ _ => true) (FS M F u1 [(u.heap.size, 43, ndC g kA 1 kc), (u.heap.size + 1, 58, #[.int .i64 0, .slice A9 n9 c9]), (u.heap.size + 1 + 1, 58, #[.int .i64 0, .slice none 0 0])] (.agg #[.int .i64 0, .slice A9 n9 c9]) X) (RpG M F (img (powR (M.R c) g.lo.toNat) X) u.heap.size g kA 1 kc (.agg #[.int .i64 0, .slice A9 n9 c9])) (EbM M) (by kernel_rfl) (by kernel_rfl) (by kernel_rfl) (by kernel_rfl) ?_ (hS0.below (bel_drew (Below.refl _ _))) [0, 4, 5] (by kernel_rfl) ?_ ?_ ?_
  · intro t dd v u u' _ hS h hE
    refine ⟨h.1, fun R hR => ?_⟩
    have h2 := h.2 R hR
    unfold RpGP at hR
    split at hR
    · cases hR; exact hS.plO h2 hE
    · cases hR
  · intro u _
    refine ⟨⟨_, rfl, ?_⟩, ⟨_, rfl, ?_⟩, ⟨_, rfl, ?_⟩, trivial⟩ <;> exact ⟨fun _ h => Option.some.inj h, fun _ h => no_some h⟩
  · refine ⟨?_, ?_, ?_, ?_, ?_, ?_, trivial⟩
    · intro a u hS hr K hK
      obtain ⟨⟨vl0, e0, g0⟩, -⟩ := hr
      obtain rfl := g0.1 _ rfl
      clear g0
      rw [if_pos (want_none rfl)]
      unfold Oper.wp
      go_simp
      exact hK _ _ ⟨fun _ h => Option.some.inj h, fun _ h => no_some h⟩ hS (eby rfl (Below.refl _ _))
    · intro a u hS hr K hK
      obtain ⟨⟨vl0, e0, g0⟩, -⟩ := hr
      obtain rfl := g0.1 _ rfl
      clear g0
      rw [if_pos (want_none rfl)]
      have z0 := hS.r0.at_ (k := 0) rfl
      have z1 := hS.r0.at_ (k := 1) rfl
      have z2 := hS.r0.at_ (k := 2) rfl
      have z3 := hS.r0.at_ (k := 3) rfl
      have z4 := hS.r0.at_ (k := 4) rfl
      have z5 := hS.r0.at_ (k := 5) rfl
      have z6 := hS.r0.at_ (k := 6) rfl
      have z7 := hS.r0.at_ (k := 7) rfl
      have z8 := hS.r0.at_ (k := 8) rfl
      unfold Oper.wp
      go_simp
      exact hK _ _ ⟨fun _ h => Option.some.inj h, fun _ h => no_some h⟩ hS (eby rfl (Below.refl _ _))
    · intro a u hS hr K hK
      obtain ⟨⟨vl0, e0, g0⟩, -⟩ := hr
      obtain rfl := g0.1 _ rfl
      clear g0
      rw [if_pos (want_none rfl)]
      unfold Oper.wp
      go_simp
      exact hK _ _ ⟨fun _ h => Option.some.inj h, fun _ h => no_some h⟩ hS (eby rfl (Below.refl _ _))
    · intro a u hS hr K hK
      obtain ⟨⟨vl0, e0, g0⟩, -⟩ := hr
      obtain rfl := g0.1 _ rfl
      clear g0
      rw [if_pos (want_none rfl)]
      have z0 := hS.r0.at_ (k := 0) rfl
      have z1 := hS.r0.at_ (k := 1) rfl
      have z2 := hS.r0.at_ (k := 2) rfl
      have z3 := hS.r0.at_ (k := 3) rfl
      have z4 := hS.r0.at_ (k := 4) rfl
      have z5 := hS.r0.at_ (k := 5) rfl
      have z6 := hS.r0.at_ (k := 6) rfl
      have z7 := hS.r0.at_ (k := 7) rfl
      have z8 := hS.r0.at_ (k := 8) rfl
      unfold Oper.wp
      go_simp
      exact hK _ _ ⟨fun _ h => Option.some.inj h, fun _ h => no_some h⟩ hS (eby rfl (Below.refl _ _))
    · intro a u hS hr K hK
      obtain ⟨⟨vl0, e0, g0⟩, -⟩ := hr
      obtain rfl := g0.1 _ rfl
      clear g0
      rw [if_pos (want_none rfl)]
      have d0 := hS.r1.at_ (k := 0) rfl
      have d1 := hS.r1.at_ (k := 1) rfl
      unfold Oper.wp
      go_simp
      exact hK _ _ ⟨fun _ h => Option.some.inj h, fun _ h => no_some h⟩ hS (eby rfl (Below.refl _ _))
    · intro a u hS hr K hK
      obtain ⟨⟨vl0, e0, g0⟩, ⟨vl1, e1, g1⟩, ⟨vl2, e2, g2⟩, -⟩ := hr
      obtain rfl := g0.1 _ rfl
      clear g0
      obtain rfl := g1.1 _ rfl
      clear g1
      obtain rfl := g2.1 _ rfl
      clear g2
      rw [if_pos (want_none rfl)]
      unfold Oper.wp
      go_simp
      refine (hnd u hS).mono ?_
      rintro e u1 ⟨v1, rfl, hm1, hk1, hp1, ho1⟩
      exact hK _ _ ⟨fun _ h => no_some h, fun _ h => spec_ok h ⟨hp1, ho1⟩⟩ (hS.step hm1 hk1) hk1
  intro a u2 hS2 hts hd hkn hf
  obtain ⟨v54, e54, g54⟩ := hf 0 _ 54 (by decide) rfl rfl (fun _ => rfl)
  obtain ⟨v55, e55, g55⟩ := hf 1 _ 55 (by decide) rfl rfl (fun _ => rfl)
  obtain ⟨v56, e56, g56⟩ := hf 2 _ 56 (by decide) rfl rfl (fun _ => rfl)
  obtain ⟨v57, e57, g57⟩ := hf 3 _ 57 (by decide) rfl rfl (fun _ => rfl)
  obtain ⟨v58, e58, g58⟩ := hf 4 _ 58 (by decide) rfl rfl (fun _ => rfl)
  obtain ⟨v59, e59, g59⟩ := hf 5 _ 59 (by decide) rfl rfl (fun _ => rfl)
  have hA := act_putsH [(54, v54), (55, v55), (56, v56), (57, v57), (58, v58), (59, v59)] hts hd hkn (by kernel_rfl) (by simp [e54, e55, e56, e57, e58, e59])
  clear hf hts hd hkn e54 e55 e56 e57 e58 e59
  obtain rfl := g54.1 _ rfl
  clear g54
  obtain rfl := g55.1 _ rfl
  clear g55
  obtain rfl := g56.1 _ rfl
  clear g56
  obtain rfl := g57.1 _ rfl
  clear g57
  obtain rfl := g58.1 _ rfl
  clear g58
  replace g59 := g59.2 _ rfl
  subst hA
  simp only [List.foldl, List.setIfInBounds_toArray, List.set_cons_zero, List.set_cons_succ]
  simp only [List.drop_succ_cons, List.drop_zero]
  obtain ⟨hp, ho⟩ := g59
  obtain ⟨A1, n1, c1, rfl⟩ := hp.form
  have G2 := hS2.turn hp ho
  have hop2 := optional_any hM hEc g kA kc hkid HS.out.1 HS.out.2.1 HS.out.2.2 (R_in hM c) F u2 _ _ (G2.inp hfl1 (fun j hj => by
    obtain ⟨i, q1, q2⟩ := hj
    exact powR_le (N := M.s.size) (R_in hM c) _ i j q2 (hX i q1)))
  have HG2 := hidd G2
  clear hS2 G2 hp ho hnd hS0 d0
  go_wp2_with fail
  refine hop2.mono ?_
  rintro e u3 ⟨v3, rfl, hm3, hk3, hp3, ho3⟩
  obtain ⟨A3, n3, c3, rfl⟩ := hp3.form
  have G3 := HF1.out.chain ((HG2.out.step hm3 hk3).turn hp3 ho3)
  have R2 := G3.r2
  have HFIN : Hid (RetQ M F u (img (M.R k) X) (.returned (.agg #[.int .i64 0, .slice A3 n3 c3])) (u3.setRow (u.heap.size + 1 + 1) #[.int .i64 0, .slice A3 n3 c3])) := G3.done (by omega) (by simp; omega) (by simp) rfl hIMG.out
  have HRF := hidd (R2.row #[.int .i64 0, .slice A3 n3 c3])
  clear hop2 G3 hm3 hk3 hp3 ho3
  go_wp2_with (refine wpList_store_row rfl 58 (.tmp 6) (.tmp 60) rfl (u.heap.size + 1 + 1) #[.int .i64 0, .slice A3 n3 c3] rfl rfl 58 #[.int .i64 0, .slice none 0 0] R2 (pl_info _ _) rfl (ones2 rfl rfl) ?_)
  exact ret_places Tryd.results47 rfl HRF.out rfl HFIN.out
end Go.Proofs.YtcgondjekpcpgaaDoor.Sy.Lg.Wl
