/- The law RingPlays. -/
import Derived.Test.YtblanbopjebenaaKi
import Derived.Test.YtblanbopjebenaaKk
import Derived.Deep.DeepCutAuto
import Derived.Deep.CutBlock
namespace Go.Proofs.Ytblanbopjebenaa.Pl
open Go.RowKit

section
variable {w w' : World} {g h n k L : Nat} {C : List Nat}
theorem list_l (r : RingS w g h n C k) (hL : C.length = L) :
    Calls Try.prog 21 #[.pointer (some ⟨g, 0, none⟩)] w fun e w' => ∃ A c, e = .returned (.slice A L c) ∧ Nts w' w'.heap.size A C ∧ Below w.heap.size w w' := by
  subst hL
  exact list_nts r
theorem ints_l {A A2 : Option Addr} {c c2 B B2 : Nat} (hx : Nts w B A C) (hy : Nts w B2 A2 C) (hL : C.length = L) (lx : L ≤ 4096) :
    Calls Try.prog 20 #[.slice A L c, .slice A2 L c2] w fun e w' => e = .returned (.bool true) ∧ Below w.heap.size w w' := by
  subst hL
  refine (ints_same A A2 c c2 C w B B2 hx hy (by omega)).mono ?_
  rintro e w' ⟨rfl, m, rfl⟩
  exact ⟨rfl, bel_drewN (Below.refl _ _) m⟩
theorem len_l (r : RingS w g h n C k) (hL : C.length = L) :
    Calls Try.prog 22 #[.pointer (some ⟨g, 0, none⟩)] w fun e w' => e = .returned (.int .i64 (L : Int)) ∧ Below w.heap.size w w' := by
  subst hL
  refine (len_ring r).mono ?_
  rintro e w' ⟨rfl, rfl⟩
  exact ⟨rfl, Below.refl _ _⟩
theorem work_l (r : RingS w g h n C k) :
    Calls Try.prog 23 #[.pointer (some ⟨g, 0, none⟩)] w fun e w' => e = .returned (.int .i64 (k : Int)) ∧ Below w.heap.size w w' := by
  refine (work_ring r).mono ?_
  rintro e w' ⟨rfl, rfl⟩
  exact ⟨rfl, Below.refl _ _⟩
end

/-- Memory in a round: the ring, the reference's one, and the counts that it told. -/
structure PlS (w : World) (g h g2 h2 n : Nat) (p : Nat → Bool) (C : List Nat) (k : Nat) (A : Option Addr) (B : Nat) (v : World) : Prop where
  box : RingS v g h n C k
  ref : RefS v g2 h2 n p k
  lst : Nts v B A C
  bel : Below w.heap.size w v
  b1 : B ≤ v.heap.size
section
variable {w v v' : World} {g h g2 h2 n k B : Nat} {p : Nat → Bool} {C : List Nat} {A : Option Addr}
theorem PlS.below (s : PlS w g h g2 h2 n p C k A B v) (hb : Below v.heap.size v v') : PlS w g h g2 h2 n p C k A B v' :=
  ⟨s.box.belw hb, s.ref.belw hb, s.lst.below (hb.mono s.b1), s.bel.trans (hb.mono s.bel.size), Nat.le_trans s.b1 hb.size⟩
theorem PlS.drewN (s : PlS w g h g2 h2 n p C k A B v) (m : Nat) : PlS w g h g2 h2 n p C k A B (v.drewN m) :=
  ⟨s.box.drewN m, s.ref.drewN m, s.lst.keep (fun _ _ => rfl), bel_drewN s.bel m, s.b1⟩
end

set_option linter.unusedVariables false in
def PlGV (g g2 L k : Nat) (C : List Nat) (A : Option Addr) (c : Nat) (s : Bool) (t : Nat) : Option Value :=
  match t with
  | 7 => some (.pointer (some ⟨g, 0, none⟩))
  | 9 => some (.pointer (some ⟨g2, 0, none⟩))
  | 12 => some (.slice A L c)
  | 14 => some (.bool s)
  | 16 => some (.bool s)
  | 71 => some (.pointer (some ⟨g, 0, none⟩))
  | 73 => some (.slice A L c)
  | 74 => some (.bool true)
  | 75 => some (.bool false)
  | 76 => some (.bool false)
  | 77 => some (.pointer (some ⟨g, 0, none⟩))
  | 78 => some (.int .i64 (L : Int))
  | 79 => some (.slice A L c)
  | 80 => some (.int .i64 (L : Int))
  | 81 => some (.bool false)
  | 82 => some (.bool false)
  | 83 => some (.bool false)
  | 84 => some (.bool s)
  | 85 => some (.slice A L c)
  | 86 => some (.int .i64 (L : Int))
  | 87 => some (.bool s)
  | 88 => some (.bool false)
  | 89 => some (.bool false)
  | 90 => some (.bool false)
  | 91 => some (.bool s)
  | 92 => some (.bool s)
  | 93 => some (.bool false)
  | 94 => some (.bool false)
  | 95 => some (.bool false)
  | 96 => some (.pointer (some ⟨g, 0, none⟩))
  | 97 => some (.int .i64 (k : Int))
  | 98 => some (.pointer (some ⟨g2, 0, none⟩))
  | 99 => some (.pointer (some ⟨g2, 0, none⟩))
  | 100 => some (.pointer (some ⟨g2, 1, none⟩))
  | 101 => some (.int .i64 (k : Int))
  | 102 => some (.bool false)
  | 103 => some (.bool false)
  | _ => none
set_option linter.unusedVariables false in
def PlGP (g g2 L k : Nat) (C : List Nat) (A : Option Addr) (c : Nat) (s : Bool) (t : Nat) : Option (Value → World → Prop) :=
  match t with
  | 72 => some (fun v u => ∃ A1 c1, v = .slice A1 L c1 ∧ Nts u u.heap.size A1 C)
  | _ => none
def PlG (g g2 L k : Nat) (C : List Nat) (A : Option Addr) (c : Nat) (s : Bool) (t : Nat) (v : Value) (u : World) : Prop := (∀ z9, PlGV g g2 L k C A c s t = some z9 → v = z9) ∧ ∀ R, PlGP g g2 L k C A c s t = some R → R v u

theorem most_rem8 (m : Int) (h0 : 0 ≤ m) : Int.tmod m 100 = (((m % 100).toNat + 1 : Nat) : Int) - 1 := by
  rw [Int.tmod_eq_emod_of_nonneg h0]
  omega
theorem lst_head {w : World} {B g off : Nat} {C : List Nat} (h : Nts w B (some ⟨g, off, none⟩) C) (hC : C ≠ []) : w.cell? ⟨g, off, none⟩ = some (.int .i64 ((headN C : Nat) : Int)) := by
  obtain ⟨g', off', e, _, hc⟩ := h hC
  cases e
  have := hc 0 (len_ne hC)
  rw [headD_at]
  exact this
theorem lst_last {w : World} {B g off L : Nat} {C : List Nat} (h : Nts w B (some ⟨g, off, none⟩) C) (hL : C.length = L + 1) : w.cell? ⟨g, off + L, none⟩ = some (.int .i64 ((lastN C : Nat) : Int)) := by
  have hC : C ≠ [] := fun e => by subst e; simp at hL
  obtain ⟨g', off', e, _, hc⟩ := h hC
  cases e
  have := hc L (by omega)
  rw [show L = C.length - 1 from by omega, getD_last C hC] at this
  rw [show L = C.length - 1 from by omega]
  exact this


set_option maxRecDepth 100000 in
set_option maxHeartbeats 4000000 in
theorem plays_core (m : Int) (A : Option Addr) (n c N : Nat) (xs : List Int) (w : World) (hX0 : Bts w w.heap.size A xs) (lc : n ≤ c) (mc : n ≤ maxLen) (el : Hid (xs.length = min n 200)) (lx : xs.length ≤ 200)
    (hq : Int.tmod m 100 = (N : Int) - 1) (N1 : 1 ≤ N) (N2 : N ≤ 4096) :
    Calls Try.prog 3 #[.int .u8 m, .slice A n c] w fun e w' => e = .returned (.bool true) ∧ Below w.heap.size w w' := by
  go_enter Try.func3, Try.ntmps3
  go_wp2_with fail
  refine (shown_any _).mono ?_
  rintro e w1 ⟨rfl, b1⟩
  go_wp2_with fail
  refine (new_any N w1 N1 N2).mono ?_
  rintro e w2 ⟨rfl, r2, b2⟩
  go_wp2_with fail
  refine (rnew_any N w2 N1 N2).mono ?_
  rintro e w3 ⟨rfl, q3, b3⟩
  have hl2 := r2.lts
  have r3 := r2.belw b3
  have D2 := b1.trans (b2.mono b1.size)
  have D3 := D2.trans (b3.mono D2.size)
  have hg1 : w.heap.size ≤ w1.heap.size + 1 := Nat.le_succ_of_le b1.size
  have hg2 : w.heap.size ≤ w1.heap.size := b1.size
  have hg3 : w.heap.size ≤ w2.heap.size + 1 := Nat.le_succ_of_le D2.size
  have hg4 : w.heap.size ≤ w2.heap.size := D2.size
  have F1 : w1.heap.size + 1 ≠ w2.heap.size + 1 := by omega
  have F2 : w1.heap.size + 1 ≠ w2.heap.size := by omega
  have F3 : w1.heap.size ≠ w2.heap.size + 1 := by omega
  have F4 : w1.heap.size ≠ w2.heap.size := by omega
  generalize w1.heap.size + 1 = g at *
  generalize w1.heap.size = h at *
  generalize w2.heap.size + 1 = g2 at *
  generalize w2.heap.size = h2' at *
  clear b1 b2 b3 D2 hq r2 hl2
  go_wp2_with fail
  refine (few_any A n c _ mc lc).mono ?_
  rintro e w4 ⟨rfl, rfl⟩
  rw [← el.out]
  go_wp2
  go_loopw [38] (fun i wr => ∃ (k h2 : Nat) (p : Nat → Bool), k ≤ xs.length ∧ i = .int .i64 k ∧ RingS wr g h N (cnt N p) k ∧ RefS wr g2 h2 N p k ∧ g ≠ g2 ∧ g ≠ h2 ∧ h ≠ g2 ∧ h ≠ h2 ∧ w.heap.size ≤ h2 ∧ Below w.heap.size w wr) (fun i _ => xs.length - (intOf i).toNat)
  case atStart => exact ⟨0, h2', noP, Nat.zero_le _, rfl, by rw [cnt_no]; exact r3, q3, F1, F2, F3, F4, hg4, D3⟩
  case round =>
    obtain ⟨k, h2, p, hk0, rfl, r, q, f1, f2, f3, f4, hb2, D⟩ := hrel
    clear r3 q3 D3 F1 F2 F3 F4
    by_cases hlt : k < xs.length
    · obtain ⟨ga, off, rfl, hga, cx, x0, x1⟩ := (hX0.below D).at_ hlt
      generalize xs.getD k 0 = x at *
      go_wp2_with fail
      refine (does_any r (by omega) x x0 x1).mono ?_
      rintro e w4 ⟨rfl, r4, t4⟩
      have D4 := t4.bel D D.size hg1 hg2
      have p0 := q.p0
      replace q := q.touch t4 f1.symm f3.symm f2.symm f4.symm
      have hrx := act_rem x x0
      clear r t4 D cx
      go_upto_block 2 with fail
      go_cut [] (fun wx => ∃ h3, RingS wx g h N (cnt N (actP x p)) (k + 1) ∧ RefS wx g2 h3 N (actP x p) (k + 1) ∧ g ≠ h3 ∧ h ≠ h3 ∧ w.heap.size ≤ h3 ∧ Below w.heap.size w wx)
      case first =>
        by_cases h1 : x % 8 < 3
        · go_wp2_with fail
          refine (rput_any q (by omega)).mono ?_
          rintro e w5 ⟨rfl, q5, t5⟩
          have hl4 := r4.lts
          have hD4 := D4.size
          have D5 := t5.bel D4 D4.size hg3 hb2
          have r5 := r4.touch t5 f1 f2 f3 f4
          rw [cnt_act N x p N1 p0] at r5
          have hap : actP x p = putP p := by unfold actP; rw [if_pos h1]
          rw [← hap] at q5
          go_wp2
          go_meet
          exact ⟨h2, r5, q5, by omega, by omega, by omega, D5⟩
        · by_cases h2x : x % 8 < 7
          · go_wp2_with fail
            refine (rinc_any q (by omega)).mono ?_
            rintro e w5 ⟨rfl, q5, t5⟩
            have hl4 := r4.lts
            have hD4 := D4.size
            have D5 := t5.bel D4 D4.size hg3 hb2
            have r5 := r4.touch t5 f1 f2 f3 f4
            rw [cnt_act N x p N1 p0] at r5
            have hap : actP x p = incP p := by unfold actP; rw [if_neg (by omega), if_pos h2x]
            rw [← hap] at q5
            go_wp2
            go_meet
            exact ⟨w4.heap.size, r5, q5, by omega, by omega, by omega, D5⟩
          · go_wp2_with fail
            refine (rclear_any q (by omega)).mono ?_
            rintro e w5 ⟨rfl, q5, t5⟩
            have hl4 := r4.lts
            have hD4 := D4.size
            have D5 := t5.bel D4 D4.size hg3 hb2
            have r5 := r4.touch t5 f1 f2 f3 f4
            rw [cnt_act N x p N1 p0] at r5
            have hap : actP x p = noP := by unfold actP; rw [if_neg (by omega), if_neg (by omega)]
            rw [← hap] at q5
            go_wp2
            go_meet
            exact ⟨w4.heap.size, r5, q5, by omega, by omega, by omega, D5⟩
      case rest =>
        obtain ⟨h3, r5, q5, f5, f6, hb3, D5⟩ := hcut
        clear D4 r4 q
        generalize actP x p = p' at *
        go_wp2_with fail
        refine (rlist_any q5).mono ?_
        rintro e w6 ⟨A6, c6, rfl, hn6, b6⟩
        have s6 : PlS w g h g2 h3 N p' (cnt N p') (k + 1) A6 w6.heap.size w6 := ⟨r5.belw b6, q5.belw b6, hn6, D5.trans (b6.mono D5.size), Nat.le_refl _⟩
        clear r5 q5 hn6 D5 b6
        generalize hCe : cnt N p' = C at *
        have HC := hidd hCe
        clear hCe
        go_wp2_with fail
        refine (min_ring s6.box).mono ?_
        rintro e w7 ⟨rfl, m7, rfl⟩
        replace s6 := s6.drewN m7
        generalize w6.drewN m7 = w7 at *
        go_wp2_with fail
        refine (max_ring s6.box).mono ?_
        rintro e w8 ⟨rfl, m8, rfl⟩
        replace s6 := s6.drewN m8
        generalize w7.drewN m8 = w8 at *
        have hL2 := s6.box.len
        generalize hL : C.length = L at *
        have hcase : (someN C = true ∧ 0 < L) ∨ (someN C = false ∧ L = 0 ∧ headN C = 0 ∧ lastN C = 0) := by
          cases C with
          | nil => exact .inr ⟨rfl, hL.symm, rfl, rfl⟩
          | cons y l => exact .inl ⟨someN_yes (by simp), by rw [← hL]; simp⟩
        have hsL : decide (0 < L) = someN C := by
          rcases hcase with ⟨hs, hLp⟩ | ⟨hs, hLz, _⟩
          · rw [hs]; exact decide_eq_true (by omega)
          · rw [hs]; exact decide_eq_false (by omega)
        have HL := hidd hL
        have HCS := hidd hcase
        have HS6 := hidd s6
        clear hL hcase
        clear s6 hk0 hb2 f2 f4 hg1 hg2 hg3 hg4 x0 x1 hrx hX0 hga
        go_wp2
        refine wp_region_slots (PlS w g h g2 h3 N p' C (k + 1) A6 w6.heap.size) (PlG g g2 L (k + 1) C A6 c6 (someN C)) (by kernel_rfl) (by kernel_rfl) (by kernel_rfl) ?_ ((HS6.out).drewN 1) [7, 9, 12, 14, 16] (by kernel_rfl) ?_ ?_ ?_
        · intro t v u u' h hb
          refine ⟨h.1, fun R hR => ?_⟩
          have hh := h.2 R hR
          unfold PlGP at hR
          split at hR
          · cases hR
            obtain ⟨A1, c1, e, hn⟩ := hh
            exact ⟨A1, c1, e, (hn.below hb).more hb.size⟩
          · cases hR
        · intro u _
          refine ⟨⟨_, rfl, ?_⟩, ⟨_, rfl, ?_⟩, ⟨_, rfl, ?_⟩, ⟨_, rfl, ?_⟩, ⟨_, rfl, ?_⟩, trivial⟩ <;> exact ⟨fun _ h => Option.some.inj h, fun _ h => no_some h⟩
        · refine ⟨?_, ?_, ?_, ?_, ?_, ?_, ?_, ?_, ?_, ?_, ?_, ?_, ?_, ?_, ?_, ?_, ?_, ?_, ?_, ?_, ?_, ?_, ?_, ?_, ?_, ?_, ?_, ?_, ?_, ?_, ?_, ?_, ?_, trivial⟩
          · intro a u hS hr K hK
            obtain ⟨⟨vl0, e0, g0⟩, -⟩ := hr
            obtain rfl := g0.1 _ rfl
            clear g0
            rw [if_pos (want_none rfl)]
            unfold Oper.wp
            go_simp
            exact hK _ _ ⟨fun _ h => Option.some.inj h, fun _ h => no_some h⟩ hS (Below.refl _ _)
          · intro a u hS hr K hK
            obtain ⟨⟨vl0, e0, g0⟩, -⟩ := hr
            obtain rfl := g0.1 _ rfl
            clear g0
            rw [if_pos (want_none rfl)]
            unfold Oper.wp
            go_simp
            refine (list_l hS.box HL.out).mono ?_
            rintro e u1 ⟨A1, c1, rfl, hn1, hb⟩
            exact hK _ _ ⟨fun _ h => no_some h, fun _ h => spec_ok h ⟨A1, c1, rfl, hn1⟩⟩ (hS.below hb) hb
          · intro a u hS hr K hK
            obtain ⟨⟨vl0, e0, g0⟩, -⟩ := hr
            obtain rfl := g0.1 _ rfl
            clear g0
            rw [if_pos (want_none rfl)]
            unfold Oper.wp
            go_simp
            exact hK _ _ ⟨fun _ h => Option.some.inj h, fun _ h => no_some h⟩ hS (Below.refl _ _)
          · intro a u hS hr K hK
            obtain ⟨⟨vl0, e0, g0⟩, ⟨vl1, e1, g1⟩, -⟩ := hr
            replace g0 := g0.2 _ rfl
            obtain rfl := g1.1 _ rfl
            clear g1
            rw [if_pos (want_none rfl)]
            obtain ⟨A1, c1, rfl, hn1⟩ := g0
            unfold Oper.wp
            go_simp
            refine (ints_l hn1 hS.lst HL.out hL2).mono ?_
            rintro e u1 ⟨rfl, hb⟩
            exact hK _ _ ⟨fun _ h => Option.some.inj h, fun _ h => no_some h⟩ (hS.below hb) hb
          · intro a u hS hr K hK
            obtain ⟨⟨vl0, e0, g0⟩, -⟩ := hr
            obtain rfl := g0.1 _ rfl
            clear g0
            rw [if_pos (want_none rfl)]
            unfold Oper.wp
            go_simp
            exact hK _ _ ⟨fun _ h => Option.some.inj h, fun _ h => no_some h⟩ hS (Below.refl _ _)
          · intro a u hS hr K hK
            obtain ⟨⟨vl0, e0, g0⟩, -⟩ := hr
            obtain rfl := g0.1 _ rfl
            clear g0
            rw [if_pos (want_none rfl)]
            unfold Oper.wp
            go_simp
            exact hK _ _ ⟨fun _ h => Option.some.inj h, fun _ h => no_some h⟩ hS (Below.refl _ _)
          · intro a u hS hr K hK
            obtain ⟨⟨vl0, e0, g0⟩, ⟨vl1, e1, g1⟩, -⟩ := hr
            obtain rfl := g0.1 _ rfl
            clear g0
            obtain rfl := g1.1 _ rfl
            clear g1
            rw [if_pos (want_some rfl rfl rfl e1)]
            unfold Oper.wp
            go_simp
            exact hK _ _ ⟨fun _ h => Option.some.inj h, fun _ h => no_some h⟩ hS (Below.refl _ _)
          · intro a u hS hr K hK
            obtain ⟨⟨vl0, e0, g0⟩, ⟨vl1, e1, g1⟩, -⟩ := hr
            obtain rfl := g0.1 _ rfl
            clear g0
            obtain rfl := g1.1 _ rfl
            clear g1
            rw [if_pos (want_some rfl rfl rfl e1)]
            unfold Oper.wp
            go_simp
            refine (len_l hS.box HL.out).mono ?_
            rintro e u1 ⟨rfl, hb⟩
            exact hK _ _ ⟨fun _ h => Option.some.inj h, fun _ h => no_some h⟩ (hS.below hb) hb
          · intro a u hS hr K hK
            obtain ⟨⟨vl0, e0, g0⟩, ⟨vl1, e1, g1⟩, -⟩ := hr
            obtain rfl := g0.1 _ rfl
            clear g0
            obtain rfl := g1.1 _ rfl
            clear g1
            rw [if_pos (want_some rfl rfl rfl e1)]
            unfold Oper.wp
            go_simp
            exact hK _ _ ⟨fun _ h => Option.some.inj h, fun _ h => no_some h⟩ hS (Below.refl _ _)
          · intro a u hS hr K hK
            obtain ⟨⟨vl0, e0, g0⟩, ⟨vl1, e1, g1⟩, -⟩ := hr
            obtain rfl := g0.1 _ rfl
            clear g0
            obtain rfl := g1.1 _ rfl
            clear g1
            rw [if_pos (want_some rfl rfl rfl e1)]
            unfold Oper.wp
            go_simp
            exact hK _ _ ⟨fun _ h => Option.some.inj h, fun _ h => no_some h⟩ hS (Below.refl _ _)
          · intro a u hS hr K hK
            obtain ⟨⟨vl0, e0, g0⟩, ⟨vl1, e1, g1⟩, ⟨vl2, e2, g2⟩, -⟩ := hr
            obtain rfl := g0.1 _ rfl
            clear g0
            obtain rfl := g1.1 _ rfl
            clear g1
            obtain rfl := g2.1 _ rfl
            clear g2
            rw [if_pos (want_some rfl rfl rfl e2)]
            unfold Oper.wp
            go_simp
            exact hK _ _ ⟨fun _ h => Option.some.inj h, fun _ h => no_some h⟩ hS (Below.refl _ _)
          · intro a u hS hr K hK
            obtain ⟨⟨vl0, e0, g0⟩, ⟨vl1, e1, g1⟩, -⟩ := hr
            obtain rfl := g0.1 _ rfl
            clear g0
            obtain rfl := g1.1 _ rfl
            clear g1
            rw [if_pos (want_none rfl)]
            unfold Oper.wp
            go_simp
            exact hK _ _ ⟨fun _ h => Option.some.inj h, fun _ h => no_some h⟩ hS (Below.refl _ _)
          · intro a u hS hr K hK
            obtain ⟨⟨vl0, e0, g0⟩, -⟩ := hr
            obtain rfl := g0.1 _ rfl
            clear g0
            rw [if_pos (want_none rfl)]
            unfold Oper.wp
            go_simp
            exact hK _ _ ⟨fun _ h => Option.some.inj h, fun _ h => no_some h⟩ hS (Below.refl _ _)
          · intro a u hS hr K hK
            obtain ⟨⟨vl0, e0, g0⟩, ⟨vl1, e1, g1⟩, -⟩ := hr
            obtain rfl := g0.1 _ rfl
            clear g0
            obtain rfl := g1.1 _ rfl
            clear g1
            rw [if_pos (want_some rfl rfl rfl e1)]
            unfold Oper.wp
            go_simp
            exact hK _ _ ⟨fun _ h => Option.some.inj h, fun _ h => no_some h⟩ hS (Below.refl _ _)
          · intro a u hS hr K hK
            obtain ⟨⟨vl0, e0, g0⟩, ⟨vl1, e1, g1⟩, -⟩ := hr
            obtain rfl := g0.1 _ rfl
            clear g0
            obtain rfl := g1.1 _ rfl
            clear g1
            rw [if_pos (want_some rfl rfl rfl e1)]
            unfold Oper.wp
            go_simp
            exact hK _ _ ⟨fun _ h => Option.some.inj h, fun _ h => no_some h⟩ hS (Below.refl _ _)
          · intro a u hS hr K hK
            obtain ⟨⟨vl0, e0, g0⟩, ⟨vl1, e1, g1⟩, -⟩ := hr
            obtain rfl := g0.1 _ rfl
            clear g0
            obtain rfl := g1.1 _ rfl
            clear g1
            rw [if_pos (want_some rfl rfl rfl e1)]
            unfold Oper.wp
            go_simp
            exact hK _ _ ⟨fun _ h => Option.some.inj h, fun _ h => no_some h⟩ hS (Below.refl _ _)
          · intro a u hS hr K hK
            obtain ⟨⟨vl0, e0, g0⟩, ⟨vl1, e1, g1⟩, -⟩ := hr
            obtain rfl := g0.1 _ rfl
            clear g0
            obtain rfl := g1.1 _ rfl
            clear g1
            rw [if_pos (want_some rfl rfl rfl e1)]
            unfold Oper.wp
            go_simp
            exact hK _ _ ⟨fun _ h => Option.some.inj h, fun _ h => no_some h⟩ hS (Below.refl _ _)
          · intro a u hS hr K hK
            obtain ⟨⟨vl0, e0, g0⟩, ⟨vl1, e1, g1⟩, ⟨vl2, e2, g2⟩, -⟩ := hr
            obtain rfl := g0.1 _ rfl
            clear g0
            obtain rfl := g1.1 _ rfl
            clear g1
            obtain rfl := g2.1 _ rfl
            clear g2
            rw [if_pos (want_some rfl rfl rfl e2)]
            unfold Oper.wp
            go_simp
            exact hK _ _ ⟨fun _ h => Option.some.inj h, fun _ h => no_some h⟩ hS (Below.refl _ _)
          · intro a u hS hr K hK
            obtain ⟨⟨vl0, e0, g0⟩, ⟨vl1, e1, g1⟩, -⟩ := hr
            obtain rfl := g0.1 _ rfl
            clear g0
            obtain rfl := g1.1 _ rfl
            clear g1
            rw [if_pos (want_none rfl)]
            unfold Oper.wp
            go_simp
            exact hK _ _ ⟨fun _ h => Option.some.inj h, fun _ h => no_some h⟩ hS (Below.refl _ _)
          · intro a u hS hr K hK
            obtain ⟨⟨vl0, e0, g0⟩, -⟩ := hr
            obtain rfl := g0.1 _ rfl
            clear g0
            rw [if_pos (want_none rfl)]
            unfold Oper.wp
            go_simp
            exact hK _ _ ⟨fun _ h => Option.some.inj h, fun _ h => no_some h⟩ hS (Below.refl _ _)
          · intro a u hS hr K hK
            obtain ⟨⟨vl0, e0, g0⟩, ⟨vl1, e1, g1⟩, -⟩ := hr
            obtain rfl := g0.1 _ rfl
            clear g0
            obtain rfl := g1.1 _ rfl
            clear g1
            rw [if_pos (want_some rfl rfl rfl e1)]
            unfold Oper.wp
            go_simp
            exact hK _ _ ⟨fun _ h => Option.some.inj h, fun _ h => no_some h⟩ hS (Below.refl _ _)
          · intro a u hS hr K hK
            obtain ⟨⟨vl0, e0, g0⟩, ⟨vl1, e1, g1⟩, -⟩ := hr
            obtain rfl := g0.1 _ rfl
            clear g0
            obtain rfl := g1.1 _ rfl
            clear g1
            rw [if_pos (want_some rfl rfl rfl e1)]
            unfold Oper.wp
            go_simp
            exact hK _ _ ⟨fun _ h => Option.some.inj h, fun _ h => no_some h⟩ hS (Below.refl _ _)
          · intro a u hS hr K hK
            obtain ⟨⟨vl0, e0, g0⟩, ⟨vl1, e1, g1⟩, ⟨vl2, e2, g2⟩, -⟩ := hr
            obtain rfl := g0.1 _ rfl
            clear g0
            obtain rfl := g1.1 _ rfl
            clear g1
            obtain rfl := g2.1 _ rfl
            clear g2
            rw [if_pos (want_some rfl rfl rfl e2)]
            unfold Oper.wp
            go_simp
            exact hK _ _ ⟨fun _ h => Option.some.inj h, fun _ h => no_some h⟩ hS (Below.refl _ _)
          · intro a u hS hr K hK
            obtain ⟨⟨vl0, e0, g0⟩, ⟨vl1, e1, g1⟩, -⟩ := hr
            obtain rfl := g0.1 _ rfl
            clear g0
            obtain rfl := g1.1 _ rfl
            clear g1
            rw [if_pos (want_none rfl)]
            unfold Oper.wp
            go_simp
            exact hK _ _ ⟨fun _ h => Option.some.inj h, fun _ h => no_some h⟩ hS (Below.refl _ _)
          · intro a u hS hr K hK
            obtain ⟨⟨vl0, e0, g0⟩, -⟩ := hr
            obtain rfl := g0.1 _ rfl
            clear g0
            rw [if_pos (want_none rfl)]
            unfold Oper.wp
            go_simp
            exact hK _ _ ⟨fun _ h => Option.some.inj h, fun _ h => no_some h⟩ hS (Below.refl _ _)
          · intro a u hS hr K hK
            obtain ⟨⟨vl0, e0, g0⟩, ⟨vl1, e1, g1⟩, -⟩ := hr
            obtain rfl := g0.1 _ rfl
            clear g0
            obtain rfl := g1.1 _ rfl
            clear g1
            rw [if_pos (want_some rfl rfl rfl e1)]
            unfold Oper.wp
            go_simp
            exact hK _ _ ⟨fun _ h => Option.some.inj h, fun _ h => no_some h⟩ hS (Below.refl _ _)
          · intro a u hS hr K hK
            obtain ⟨⟨vl0, e0, g0⟩, ⟨vl1, e1, g1⟩, -⟩ := hr
            obtain rfl := g0.1 _ rfl
            clear g0
            obtain rfl := g1.1 _ rfl
            clear g1
            rw [if_pos (want_some rfl rfl rfl e1)]
            unfold Oper.wp
            go_simp
            refine (work_l hS.box).mono ?_
            rintro e u1 ⟨rfl, hb⟩
            exact hK _ _ ⟨fun _ h => Option.some.inj h, fun _ h => no_some h⟩ (hS.below hb) hb
          · intro a u hS hr K hK
            obtain ⟨⟨vl0, e0, g0⟩, ⟨vl1, e1, g1⟩, -⟩ := hr
            obtain rfl := g0.1 _ rfl
            clear g0
            obtain rfl := g1.1 _ rfl
            clear g1
            rw [if_pos (want_some rfl rfl rfl e1)]
            unfold Oper.wp
            go_simp
            exact hK _ _ ⟨fun _ h => Option.some.inj h, fun _ h => no_some h⟩ hS (Below.refl _ _)
          · intro a u hS hr K hK
            obtain ⟨⟨vl0, e0, g0⟩, ⟨vl1, e1, g1⟩, -⟩ := hr
            obtain rfl := g0.1 _ rfl
            clear g0
            obtain rfl := g1.1 _ rfl
            clear g1
            rw [if_pos (want_some rfl rfl rfl e1)]
            unfold Oper.wp
            go_simp
            exact hK _ _ ⟨fun _ h => Option.some.inj h, fun _ h => no_some h⟩ hS (Below.refl _ _)
          · intro a u hS hr K hK
            obtain ⟨⟨vl0, e0, g0⟩, ⟨vl1, e1, g1⟩, -⟩ := hr
            obtain rfl := g0.1 _ rfl
            clear g0
            obtain rfl := g1.1 _ rfl
            clear g1
            rw [if_pos (want_some rfl rfl rfl e1)]
            unfold Oper.wp
            go_simp
            exact hK _ _ ⟨fun _ h => Option.some.inj h, fun _ h => no_some h⟩ hS (Below.refl _ _)
          · intro a u hS hr K hK
            obtain ⟨⟨vl0, e0, g0⟩, ⟨vl1, e1, g1⟩, -⟩ := hr
            obtain rfl := g0.1 _ rfl
            clear g0
            obtain rfl := g1.1 _ rfl
            clear g1
            rw [if_pos (want_some rfl rfl rfl e1)]
            obtain ⟨c0, c1⟩ := hS.ref.cells
            unfold Oper.wp
            go_simp
            exact hK _ _ ⟨fun _ h => Option.some.inj h, fun _ h => no_some h⟩ hS (Below.refl _ _)
          · intro a u hS hr K hK
            obtain ⟨⟨vl0, e0, g0⟩, ⟨vl1, e1, g1⟩, ⟨vl2, e2, g2⟩, -⟩ := hr
            obtain rfl := g0.1 _ rfl
            clear g0
            obtain rfl := g1.1 _ rfl
            clear g1
            obtain rfl := g2.1 _ rfl
            clear g2
            rw [if_pos (want_some rfl rfl rfl e2)]
            unfold Oper.wp
            go_simp
            exact hK _ _ ⟨fun _ h => Option.some.inj h, fun _ h => no_some h⟩ hS (Below.refl _ _)
          · intro a u hS hr K hK
            obtain ⟨⟨vl0, e0, g0⟩, ⟨vl1, e1, g1⟩, -⟩ := hr
            obtain rfl := g0.1 _ rfl
            clear g0
            obtain rfl := g1.1 _ rfl
            clear g1
            rw [if_pos (want_none rfl)]
            unfold Oper.wp
            go_simp
            exact hK _ _ ⟨fun _ h => Option.some.inj h, fun _ h => no_some h⟩ hS (Below.refl _ _)
        intro a u hS hts hd hkn hf
        obtain ⟨v71, e71, g71⟩ := hf 0 _ 71 rfl rfl
        obtain ⟨v72, e72, g72⟩ := hf 1 _ 72 rfl rfl
        obtain ⟨v73, e73, g73⟩ := hf 2 _ 73 rfl rfl
        obtain ⟨v74, e74, g74⟩ := hf 3 _ 74 rfl rfl
        obtain ⟨v75, e75, g75⟩ := hf 4 _ 75 rfl rfl
        obtain ⟨v76, e76, g76⟩ := hf 5 _ 76 rfl rfl
        obtain ⟨v77, e77, g77⟩ := hf 6 _ 77 rfl rfl
        obtain ⟨v78, e78, g78⟩ := hf 7 _ 78 rfl rfl
        obtain ⟨v79, e79, g79⟩ := hf 8 _ 79 rfl rfl
        obtain ⟨v80, e80, g80⟩ := hf 9 _ 80 rfl rfl
        obtain ⟨v81, e81, g81⟩ := hf 10 _ 81 rfl rfl
        obtain ⟨v82, e82, g82⟩ := hf 11 _ 82 rfl rfl
        obtain ⟨v83, e83, g83⟩ := hf 12 _ 83 rfl rfl
        obtain ⟨v84, e84, g84⟩ := hf 13 _ 84 rfl rfl
        obtain ⟨v85, e85, g85⟩ := hf 14 _ 85 rfl rfl
        obtain ⟨v86, e86, g86⟩ := hf 15 _ 86 rfl rfl
        obtain ⟨v87, e87, g87⟩ := hf 16 _ 87 rfl rfl
        obtain ⟨v88, e88, g88⟩ := hf 17 _ 88 rfl rfl
        obtain ⟨v89, e89, g89⟩ := hf 18 _ 89 rfl rfl
        obtain ⟨v90, e90, g90⟩ := hf 19 _ 90 rfl rfl
        obtain ⟨v91, e91, g91⟩ := hf 20 _ 91 rfl rfl
        obtain ⟨v92, e92, g92⟩ := hf 21 _ 92 rfl rfl
        obtain ⟨v93, e93, g93⟩ := hf 22 _ 93 rfl rfl
        obtain ⟨v94, e94, g94⟩ := hf 23 _ 94 rfl rfl
        obtain ⟨v95, e95, g95⟩ := hf 24 _ 95 rfl rfl
        obtain ⟨v96, e96, g96⟩ := hf 25 _ 96 rfl rfl
        obtain ⟨v97, e97, g97⟩ := hf 26 _ 97 rfl rfl
        obtain ⟨v98, e98, g98⟩ := hf 27 _ 98 rfl rfl
        obtain ⟨v99, e99, g99⟩ := hf 28 _ 99 rfl rfl
        obtain ⟨v100, e100, g100⟩ := hf 29 _ 100 rfl rfl
        obtain ⟨v101, e101, g101⟩ := hf 30 _ 101 rfl rfl
        obtain ⟨v102, e102, g102⟩ := hf 31 _ 102 rfl rfl
        obtain ⟨v103, e103, g103⟩ := hf 32 _ 103 rfl rfl
        have hA := act_puts [(71, v71), (72, v72), (73, v73), (74, v74), (75, v75), (76, v76), (77, v77), (78, v78), (79, v79), (80, v80), (81, v81), (82, v82), (83, v83), (84, v84), (85, v85), (86, v86), (87, v87), (88, v88), (89, v89), (90, v90), (91, v91), (92, v92), (93, v93), (94, v94), (95, v95), (96, v96), (97, v97), (98, v98), (99, v99), (100, v100), (101, v101), (102, v102), (103, v103)] hts hd hkn (by kernel_rfl) (by simp [e71, e72, e73, e74, e75, e76, e77, e78, e79, e80, e81, e82, e83, e84, e85, e86, e87, e88, e89, e90, e91, e92, e93, e94, e95, e96, e97, e98, e99, e100, e101, e102, e103])
        clear hf hts hd hkn e71 e72 e73 e74 e75 e76 e77 e78 e79 e80 e81 e82 e83 e84 e85 e86 e87 e88 e89 e90 e91 e92 e93 e94 e95 e96 e97 e98 e99 e100 e101 e102 e103
        obtain rfl := g71.1 _ rfl
        clear g71
        replace g72 := g72.2 _ rfl
        obtain rfl := g73.1 _ rfl
        clear g73
        obtain rfl := g74.1 _ rfl
        clear g74
        obtain rfl := g75.1 _ rfl
        clear g75
        obtain rfl := g76.1 _ rfl
        clear g76
        obtain rfl := g77.1 _ rfl
        clear g77
        obtain rfl := g78.1 _ rfl
        clear g78
        obtain rfl := g79.1 _ rfl
        clear g79
        obtain rfl := g80.1 _ rfl
        clear g80
        obtain rfl := g81.1 _ rfl
        clear g81
        obtain rfl := g82.1 _ rfl
        clear g82
        obtain rfl := g83.1 _ rfl
        clear g83
        obtain rfl := g84.1 _ rfl
        clear g84
        obtain rfl := g85.1 _ rfl
        clear g85
        obtain rfl := g86.1 _ rfl
        clear g86
        obtain rfl := g87.1 _ rfl
        clear g87
        obtain rfl := g88.1 _ rfl
        clear g88
        obtain rfl := g89.1 _ rfl
        clear g89
        obtain rfl := g90.1 _ rfl
        clear g90
        obtain rfl := g91.1 _ rfl
        clear g91
        obtain rfl := g92.1 _ rfl
        clear g92
        obtain rfl := g93.1 _ rfl
        clear g93
        obtain rfl := g94.1 _ rfl
        clear g94
        obtain rfl := g95.1 _ rfl
        clear g95
        obtain rfl := g96.1 _ rfl
        clear g96
        obtain rfl := g97.1 _ rfl
        clear g97
        obtain rfl := g98.1 _ rfl
        clear g98
        obtain rfl := g99.1 _ rfl
        clear g99
        obtain rfl := g100.1 _ rfl
        clear g100
        obtain rfl := g101.1 _ rfl
        clear g101
        obtain rfl := g102.1 _ rfl
        clear g102
        obtain rfl := g103.1 _ rfl
        clear g103
        subst hA
        simp only [List.foldl, List.setIfInBounds_toArray, List.set_cons_zero, List.set_cons_succ]
        simp only [Exit.then]
        apply_assumption
        clear hsL
        have HS := hidd hS
        have hlst := hS.lst
        clear hS
        rcases HCS.out with ⟨hs, hLp⟩ | ⟨hs, hLz, hh0, hl0⟩
        · obtain ⟨L1, rfl⟩ : ∃ L1, L = L1 + 1 := ⟨L - 1, by omega⟩
          have hne : C ≠ [] := fun e => by have := HL.out; rw [e] at this; simp at this
          obtain ⟨ge, oe, rfl, -, -⟩ := hlst hne
          have ch := lst_head hlst hne
          have cl := lst_last hlst HL.out
          clear hlst
          rw [hs]
          generalize headN C = lo at *
          generalize lastN C = hi at *
          go_wp2
          exact ⟨⟨k + 1, h3, p', by omega, rfl, by rw [HC.out]; exact HS.out.box, HS.out.ref, f1, f5, f3, f6, hb3, HS.out.bel⟩, by simp [intOf]; omega⟩
        · subst hLz
          rw [hs, hh0, hl0]
          go_wp2
          exact ⟨⟨k + 1, h3, p', by omega, rfl, by rw [HC.out]; exact HS.out.box, HS.out.ref, f1, f5, f3, f6, hb3, HS.out.bel⟩, by simp [intOf]; omega⟩
    · go_wp2
      go_ret
      exact ⟨rfl, D⟩

theorem plays_any (m : Int) (A : Option Addr) (c : Nat) (l : List Int) (w : World) (hS : Bts w w.heap.size A l) (lc : l.length ≤ c) (mc : c ≤ maxLen) (m0 : 0 ≤ m) :
    Calls Try.prog 3 #[.int .u8 m, .slice A l.length c] w fun e w' => e = .returned (.bool true) ∧ Below w.heap.size w w' := by
  have el : (l.take 200).length = min l.length 200 := by rw [List.length_take]; omega
  exact plays_core m A l.length c ((m % 100).toNat + 1) (l.take 200) w (hS.cut 200) lc (by omega) el (by omega) (most_rem8 m m0) (by omega) (by omega)

end Go.Proofs.Ytblanbopjebenaa.Pl
