/- The law RingShift. -/
import Derived.Test.YtblanbopjebenaaKg
namespace Go.Proofs.Ytblanbopjebenaa
open Go.RowKit

/-- What Inc makes of counts, place by place. -/
theorem inc_shift {n : Nat} {C : List Nat} (h : Rise n C) : (C = [] ∧ incL n C = []) ∨ ∃ L, C.length = L + 1 ∧ ((C.getD L 0 < n ∧ (incL n C).length = L + 1) ∨ (C.getD L 0 = n ∧ (incL n C).length = L)) ∧ ∀ i, i < (incL n C).length → (incL n C).getD i 0 = C.getD i 0 + 1 := by
  by_cases hc : C = []
  · subst hc; exact .inl ⟨rfl, rfl⟩
  · obtain ⟨D, x, rfl⟩ := snoc_of hc
    refine .inr ⟨D.length, by simp, ?_⟩
    have hx : (D ++ [x]).getD D.length 0 = x := by simp
    have hle := (h.2 x (by simp)).2
    rw [hx]
    have hat : ∀ (T : List Nat) (i : Nat), i < D.length → (D.map (· + 1) ++ T).getD i 0 = (D ++ [x]).getD i 0 + 1 := by
      intro T i hi
      rw [List.getD_eq_getElem?_getD, List.getD_eq_getElem?_getD, List.getElem?_append_left (by simpa using hi), List.getElem?_append_left hi, List.getElem?_map, List.getElem?_eq_getElem hi]
      rfl
    by_cases hl : x < n
    · rw [inc_snoc h, if_pos hl]
      refine ⟨.inl ⟨hl, by simp⟩, fun i hi => ?_⟩
      simp only [List.length_append, List.length_map, List.length_singleton] at hi
      by_cases hi2 : i < D.length
      · exact hat _ i hi2
      · have : i = D.length := by omega
        subst this
        rw [hx, List.getD_eq_getElem?_getD, List.getElem?_append_right (by simp)]
        simp
    · rw [inc_snoc h, if_neg hl]
      refine ⟨.inr ⟨by omega, by simp⟩, fun i hi => hat [] i (by simpa using hi)⟩

/-- As Nts, and not in blocks below lo. -/
def NtsA (w : World) (lo B : Nat) (A : Option Addr) (xs : List Nat) : Prop :=
  xs ≠ [] → ∃ g off, A = some ⟨g, off, none⟩ ∧ lo ≤ g ∧ g < B ∧ ∀ i, i < xs.length → w.cell? ⟨g, off + i, none⟩ = some (.int .i64 ((xs.getD i 0 : Nat) : Int))
section
variable {w w' : World} {lo B : Nat} {A : Option Addr} {xs : List Nat}
theorem NtsA.nts (h : NtsA w lo B A xs) : Nts w B A xs := fun hx => by
  obtain ⟨g, off, e, _, hg, hc⟩ := h hx
  exact ⟨g, off, e, hg, hc⟩
theorem NtsA.touch {g h : Nat} (s : NtsA w lo B A xs) (t : Touch g h w w') (hB : B ≤ w.heap.size) (hg : g < lo) (hh : h < lo) : NtsA w' lo B A xs := fun hx => by
  obtain ⟨a, off, e, h1, h2, hc⟩ := s hx
  exact ⟨a, off, e, h1, h2, fun i hi => (World.cell?_of_block (t.block a (by omega) (by omega) (by omega))).trans (hc i hi)⟩
end
theorem list_ntsA {w : World} {g h n k : Nat} {C : List Nat} (r : RingS w g h n C k) :
    Calls Try.prog 21 #[.pointer (some ⟨g, 0, none⟩)] w fun e w' => ∃ A c, e = .returned (.slice A C.length c) ∧ NtsA w' w.heap.size w'.heap.size A C ∧ Below w.heap.size w w' := by
  obtain ⟨hr, now, old, f, r⟩ := r
  refine (list_any r).mono ?_
  rintro e w' ⟨v, rfl, ho, hb⟩
  rcases Nat.eq_zero_or_pos C.length with h0 | h0
  · obtain ⟨A, c, rfl⟩ := own_form ho
    exact ⟨A, c, rfl, fun hne => absurd (List.eq_nil_of_length_eq_zero h0) hne, hb⟩
  · obtain ⟨gx, c, rfl, h1, h2⟩ := own_pos ho h0
    refine ⟨_, c, rfl, fun _ => ⟨gx, 0, rfl, h1, h2, fun i hi => ?_⟩, hb⟩
    have := ho.cellAt i (by omega)
    rw [i64s_at C i hi] at this
    rw [Nat.zero_add]
    exact this
theorem act_inc {n : Nat} {a : Int} {C : List Nat} (h1 : ¬ a % 8 < 3) (h2 : a % 8 < 7) : actL n a C = incL n C := by
  unfold actL
  rw [if_neg h1, if_pos h2]


set_option maxRecDepth 100000 in
set_option maxHeartbeats 4000000 in
theorem shift_core (m : Int) (A : Option Addr) (n c N : Nat) (xs : List Int) (w : World) (hX0 : Bts w w.heap.size A xs) (lc : n ≤ c) (mc : n ≤ maxLen) (el : Hid (xs.length = min n 200)) (lx : xs.length ≤ 200)
    (hq : Int.tmod m 4096 = (N : Int) - 1) (N1 : 1 ≤ N) (N2 : N ≤ 4096) :
    Calls Try.prog 8 #[.int .u16 m, .slice A n c] w fun e w' => e = .returned (.bool true) ∧ Below w.heap.size w w' := by
  go_enter Try.func8, Try.ntmps8
  go_wp2_with fail
  refine (shown_any _).mono ?_
  rintro e w1 ⟨rfl, b1⟩
  go_wp2_with fail
  refine (new_any N w1 N1 N2).mono ?_
  rintro e w2 ⟨rfl, r2, b2⟩
  have D2 := b1.trans (b2.mono b1.size)
  have hg1 : w.heap.size ≤ w1.heap.size + 1 := Nat.le_succ_of_le b1.size
  have hg2 : w.heap.size ≤ w1.heap.size := b1.size
  generalize w1.heap.size + 1 = g at *
  generalize w1.heap.size = h at *
  clear b1 b2 hq
  go_wp2_with fail
  refine (few_any A n c _ mc lc).mono ?_
  rintro e w3 ⟨rfl, rfl⟩
  rw [← el.out]
  go_wp2
  go_loopw [33] (fun i wr => ∃ (k : Nat) (C : List Nat), k ≤ xs.length ∧ i = .int .i64 k ∧ RingS wr g h N C k ∧ Below w.heap.size w wr) (fun i _ => xs.length - (intOf i).toNat)
  case atStart => exact ⟨0, [], Nat.zero_le _, rfl, r2, D2⟩
  case round =>
    obtain ⟨k, C, hk0, rfl, r, D⟩ := hrel
    by_cases hlt : k < xs.length
    · obtain ⟨ga, off, rfl, hga, cx, x0, x1⟩ := (hX0.below D).at_ hlt
      generalize xs.getD k 0 = x at *
      clear r2 D2
      go_wp2_with fail
      refine (list_ntsA r).mono ?_
      rintro e w4 ⟨A4, c4, rfl, hn4, b4⟩
      have r4 := r.belw b4
      have D4 := D.trans (b4.mono D.size)
      have hlts := r.lts
      have hgl : g < wr.heap.size := hlts.1
      have hhl : h < wr.heap.size := hlts.2
      clear r D b4 cx hlts
      go_wp2_with fail
      refine (does_any r4 (by omega) x x0 x1).mono ?_
      rintro e w5 ⟨rfl, r5, t5⟩
      have D5 := t5.bel D4 D4.size hg1 hg2
      have hn5 := hn4.touch t5 (Nat.le_refl _) hgl hhl
      have ht5 := t5.size
      have hR := hidd r4.1
      have hCl := r4.len
      clear r4 D4 t5 hn4
      go_wp2_with fail
      refine (list_nts r5).mono ?_
      rintro e w6 ⟨A6, c6, rfl, hn6, b6⟩
      have r6 := r5.belw b6
      have D6 := D5.trans (b6.mono D5.size)
      have hn7 := hn5.nts.below (b6.mono ht5)
      have hr8 := act_rem x x0
      clear r5 D5 b6 hn5 ht5
      by_cases h1 : x % 8 < 3
      · go_wp2
        exact ⟨⟨k + 1, _, by omega, rfl, r6, D6⟩, by simp [intOf]; omega⟩
      · by_cases h2 : x % 8 < 7
        · have hy7 : (x % 8 == 7) = false := by simp; omega
          have hy3 : decide (x % 8 < 3) = false := decide_eq_false h1
          rw [act_inc h1 h2] at hn6 r6 ⊢
          have HLe : Hid (∀ j, j < C.length → C.getD j 0 ≤ 4096) := fun j hj => Nat.le_trans (rise_at hR.out j hj).2 N2
          rcases inc_shift hR.out with ⟨hc, hi⟩ | ⟨L, hL, hcs, hAt⟩
          · subst hc
            rw [hi] at hn6 r6 ⊢
            go_wp2
            go_loopw [88] (fun i wi => wi = w6 ∧ i = .int .i64 0) (fun i _ => 0 - (intOf i).toNat)
            case atStart => exact ⟨rfl, rfl⟩
            case round =>
              obtain ⟨rfl, rfl⟩ := hrel
              go_wp2
              exact ⟨⟨k + 1, [], by omega, rfl, r6, D6⟩, by simp [intOf]; omega⟩
          · have HAt := hidd hAt
            have HL := hidd hL
            obtain ⟨gw, ow, e, -, cw⟩ := hn7.at_ (k := L) (by omega)
            subst e
            rw [hL] at hCl ⊢
            clear hAt hL
            rcases hcs with ⟨hlt2, hE⟩ | ⟨heq, hE⟩
            · have HE := hidd hE
              rw [hE]
              have hlt3 : ¬ ((C.getD L 0 : Nat) : Int) = (N : Int) := by omega
              generalize C.getD L 0 = y at *
              clear hE
              have hb1 : decide ((L : Int) + 1 < (L : Int)) = false := decide_eq_false (by omega)
              have hb2 : ((y : Int) == (N : Int)) = false := by simp; omega
              go_wp2
              go_loopw [88] (fun i wi => (∃ mm, wi = w6.drewN mm) ∧ ∃ j : Nat, j ≤ L + 1 ∧ i = .int .i64 j) (fun i _ => L + 1 - (intOf i).toNat)
              case atStart => exact ⟨⟨0, rfl⟩, 0, Nat.zero_le _, rfl⟩
              case round =>
                obtain ⟨⟨mm, rfl⟩, j, hj0, rfl⟩ := hrel
                by_cases hj : j < L + 1
                · have hj1 : (j : Int) < ((L + 1 : Nat) : Int) := by omega
                  have hj2 : (j : Int) < ((L + 1 : Nat) : Int) := by omega
                  obtain ⟨gx, ox, rfl, -, cj⟩ := hn6.at_ (k := j) (by rw [HE.out]; exact hj)
                  obtain ⟨gy, oy, e, -, ci⟩ := hn7.at_ (k := j) (by rw [HL.out]; omega)
                  cases e
                  rw [HAt.out j (by rw [HE.out]; exact hj)] at cj
                  have hle := HLe.out j (by rw [HL.out]; omega)
                  generalize C.getD j 0 = y at *
                  have hadd : IntKind.i64.wrap ((y : Int) + 1) = ((y + 1 : Nat) : Int) := by rw [IntKind.wrap_i64]; omega
                  have hc1 : ((y + 1 : Nat) : Int) = (y : Int) + 1 := by omega
                  rw [hc1] at cj
                  go_wp2
                  go_quiet (fail)
                  go_wp2
                  exact ⟨⟨⟨_, rfl⟩, j + 1, by omega, rfl⟩, by simp [intOf]; omega⟩
                · go_wp2
                  exact ⟨⟨k + 1, incL N C, by omega, rfl, r6.drewN mm, bel_drewN D6 mm⟩, by simp [intOf]; omega⟩
            · have HE := hidd hE
              rw [hE]
              rw [heq] at cw
              clear hE
              have hb1 : decide ((L : Int) + 1 < (L : Int)) = false := decide_eq_false (by omega)
              have hb3 : decide ((L : Int) < (L : Int) + 1) = true := decide_eq_true (by omega)
              go_wp2
              go_loopw [88] (fun i wi => (∃ mm, wi = w6.drewN mm) ∧ ∃ j : Nat, j ≤ L ∧ i = .int .i64 j) (fun i _ => L - (intOf i).toNat)
              case atStart => exact ⟨⟨0, rfl⟩, 0, Nat.zero_le _, rfl⟩
              case round =>
                obtain ⟨⟨mm, rfl⟩, j, hj0, rfl⟩ := hrel
                by_cases hj : j < L
                · have hj1 : (j : Int) < ((L : Nat) : Int) := by omega
                  have hj2 : (j : Int) < ((L + 1 : Nat) : Int) := by omega
                  obtain ⟨gx, ox, rfl, -, cj⟩ := hn6.at_ (k := j) (by rw [HE.out]; exact hj)
                  obtain ⟨gy, oy, e, -, ci⟩ := hn7.at_ (k := j) (by rw [HL.out]; omega)
                  cases e
                  rw [HAt.out j (by rw [HE.out]; exact hj)] at cj
                  have hle := HLe.out j (by rw [HL.out]; omega)
                  generalize C.getD j 0 = y at *
                  have hadd : IntKind.i64.wrap ((y : Int) + 1) = ((y + 1 : Nat) : Int) := by rw [IntKind.wrap_i64]; omega
                  have hc1 : ((y + 1 : Nat) : Int) = (y : Int) + 1 := by omega
                  rw [hc1] at cj
                  go_wp2
                  go_quiet (fail)
                  go_wp2
                  exact ⟨⟨⟨_, rfl⟩, j + 1, by omega, rfl⟩, by simp [intOf]; omega⟩
                · go_wp2
                  exact ⟨⟨k + 1, incL N C, by omega, rfl, r6.drewN mm, bel_drewN D6 mm⟩, by simp [intOf]; omega⟩
        · have hy7 : x % 8 = 7 := by omega
          go_wp2
          exact ⟨⟨k + 1, _, by omega, rfl, r6, D6⟩, by simp [intOf]; omega⟩
    · go_wp2
      go_ret
      exact ⟨rfl, D⟩

theorem shift_any (m : Int) (A : Option Addr) (c : Nat) (l : List Int) (w : World) (hS : Bts w w.heap.size A l) (lc : l.length ≤ c) (mc : c ≤ maxLen) (m0 : 0 ≤ m) :
    Calls Try.prog 8 #[.int .u16 m, .slice A l.length c] w fun e w' => e = .returned (.bool true) ∧ Below w.heap.size w w' := by
  have el : (l.take 200).length = min l.length 200 := by rw [List.length_take]; omega
  exact shift_core m A l.length c ((m % 4096).toNat + 1) (l.take 200) w (hS.cut 200) lc (by omega) el (by omega) (most_rem m m0) (by omega) (by omega)

end Go.Proofs.Ytblanbopjebenaa
