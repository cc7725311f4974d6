/- The law RingRises. -/
import Derived.Test.YtblanbopjebenaaKe
namespace Go.Proofs.Ytblanbopjebenaa
open Go.RowKit

theorem head_put (C : List Nat) : headN (putL C) = 1 := by
  unfold putL
  split
  · rename_i h
    cases C with
    | nil => cases h
    | cons x r => simpa [headN] using h
  · rfl
theorem head_inc {n : Nat} {C : List Nat} (h : Rise n C) : ¬ headN (incL n C) = 1 := by
  cases hc : incL n C with
  | nil => decide
  | cons y r =>
    have : y ∈ incL n C := by rw [hc]; simp
    unfold incL at this
    rw [List.mem_filter, List.mem_map] at this
    obtain ⟨⟨x, hx, rfl⟩, _⟩ := this
    have := (h.2 x hx).1
    simp [headN]
    omega
theorem rise_next {n : Nat} {C : List Nat} (h : Rise n C) (j : Nat) (hj : j + 1 < C.length) : C.getD j 0 < C.getD (j + 1) 0 := by
  rw [List.getD_eq_getElem?_getD, List.getD_eq_getElem?_getD, List.getElem?_eq_getElem hj, List.getElem?_eq_getElem (by omega : j < C.length)]
  exact List.pairwise_iff_getElem.1 h.1 j (j + 1) (by omega) hj (by omega)
theorem rise_at {n : Nat} {C : List Nat} (h : Rise n C) (j : Nat) (hj : j < C.length) : 1 ≤ C.getD j 0 ∧ C.getD j 0 ≤ n := h.2 _ (getD_mem hj)
theorem most_rem (m : Int) (h0 : 0 ≤ m) : Int.tmod m 4096 = (((m % 4096).toNat + 1 : Nat) : Int) - 1 := by
  rw [Int.tmod_eq_emod_of_nonneg h0]
  omega
theorem min_ring {w : World} {g h n k : Nat} {C : List Nat} (r : RingS w g h n C k) :
    Calls Try.prog 18 #[.pointer (some ⟨g, 0, none⟩)] w fun e w' => e = .returned (.tuple #[.int .i64 ((headN C : Nat) : Int), .bool (someN C)]) ∧ ∃ m, w' = w.drewN m := by
  obtain ⟨hr, now, old, f, r⟩ := r
  exact min_any r
theorem max_ring {w : World} {g h n k : Nat} {C : List Nat} (r : RingS w g h n C k) :
    Calls Try.prog 19 #[.pointer (some ⟨g, 0, none⟩)] w fun e w' => e = .returned (.tuple #[.int .i64 ((lastN C : Nat) : Int), .bool (someN C)]) ∧ ∃ m, w' = w.drewN m := by
  obtain ⟨hr, now, old, f, r⟩ := r
  exact max_any r
/-- What the head of a round tells of the act. -/
theorem act_case (n : Nat) (a : Int) (C : List Nat) (h : Rise n C) : (a % 8 < 3 ∧ headN (actL n a C) = 1) ∨ (3 ≤ a % 8 ∧ a % 8 < 7 ∧ ¬ ((headN (actL n a C) : Nat) : Int) = 1) ∨ (a % 8 = 7 ∧ actL n a C = []) := by
  unfold actL
  by_cases h1 : a % 8 < 3
  · rw [if_pos h1]
    exact .inl ⟨h1, head_put C⟩
  · rw [if_neg h1]
    by_cases h2 : a % 8 < 7
    · rw [if_pos h2]
      have := head_inc h
      exact .inr (.inl ⟨by omega, h2, by omega⟩)
    · rw [if_neg h2]
      exact .inr (.inr ⟨by omega, rfl⟩)

set_option maxRecDepth 100000 in
set_option maxHeartbeats 4000000 in
theorem rises_core (m : Int) (A : Option Addr) (n c N : Nat) (xs : List Int) (w : World) (hX0 : Bts w w.heap.size A xs) (lc : n ≤ c) (mc : n ≤ maxLen) (el : Hid (xs.length = min n 200)) (lx : xs.length ≤ 200)
    (hq : Int.tmod m 4096 = (N : Int) - 1) (N1 : 1 ≤ N) (N2 : N ≤ 4096) :
    Calls Try.prog 4 #[.int .u16 m, .slice A n c] w fun e w' => e = .returned (.bool true) ∧ Below w.heap.size w w' := by
  go_enter Try.func4, Try.ntmps4
  go_wp2_with fail
  refine (shown_any _).mono ?_
  rintro e w1 ⟨rfl, b1⟩
  go_wp2_with fail
  refine (new_any N w1 N1 N2).mono ?_
  rintro e w2 ⟨rfl, r2, b2⟩
  have D2 := b1.trans (b2.mono b1.size)
  have hg1 : w.heap.size ≤ w1.heap.size + 1 := Nat.le_succ_of_le b1.size
  have hg2 : w.heap.size ≤ w1.heap.size := b1.size
  generalize w1.heap.size + 1 = g at *
  generalize w1.heap.size = h at *
  clear b1 b2 hq
  go_wp2_with fail
  refine (few_any A n c _ mc lc).mono ?_
  rintro e w3 ⟨rfl, rfl⟩
  rw [← el.out]
  go_wp2
  go_loopw [35] (fun i wr => ∃ (k : Nat) (C : List Nat), k ≤ xs.length ∧ i = .int .i64 k ∧ RingS wr g h N C k ∧ Below w.heap.size w wr) (fun i _ => xs.length - (intOf i).toNat)
  case atStart => exact ⟨0, [], Nat.zero_le _, rfl, r2, D2⟩
  case round =>
    obtain ⟨k, C, hk0, rfl, r, D⟩ := hrel
    by_cases hlt : k < xs.length
    · obtain ⟨ga, off, rfl, hga, cx, x0, x1⟩ := (hX0.below D).at_ hlt
      generalize xs.getD k 0 = x at *
      clear r2 D2
      go_wp2_with fail
      refine (does_any r (by omega) x x0 x1).mono ?_
      rintro e w4 ⟨rfl, r4, t4⟩
      have D4 := t4.bel D D.size hg1 hg2
      have hcs := act_case N x C r.1
      clear r D t4 cx
      generalize actL N x C = E at *
      go_wp2_with fail
      refine (list_nts r4).mono ?_
      rintro e w5 ⟨A5, c5, rfl, hn, b5⟩
      have r5 := r4.belw b5
      have D5 := D4.trans (b5.mono D4.size)
      have hE := r5.len
      have hR := hidd r5.1
      clear r4 D4 b5
      have HCS := hidd hcs
      clear hcs
      go_wp2
      go_loopw [46] (fun i wi => wi = w5 ∧ ∃ j : Nat, j ≤ E.length ∧ i = .int .i64 j) (fun i _ => E.length - (intOf i).toNat)
      case atStart => exact ⟨rfl, 0, Nat.zero_le _, rfl⟩
      case round =>
        obtain ⟨rfl, j, hj0, rfl⟩ := hrel
        by_cases hj : j < E.length
        · obtain ⟨gx, ox, rfl, -, cj⟩ := hn.at_ hj
          have hb := rise_at hR.out j hj
          cases j with
          | zero =>
            rw [Nat.add_zero] at cj
            generalize E.getD 0 0 = y at *
            go_wp2
            exact ⟨⟨trivial, 1, by omega, rfl⟩, by simp [intOf]; omega⟩
          | succ j =>
            obtain ⟨gy, oy, e, -, ci⟩ := hn.at_ (k := j) (by omega)
            cases e
            have hlt2 := rise_next hR.out j hj
            generalize E.getD j 0 = y0 at *
            generalize E.getD (j + 1) 0 = y at *
            go_wp2
            exact ⟨⟨trivial, j + 1 + 1, by omega, rfl⟩, by simp [intOf]; omega⟩
        · go_wp2_with fail
          refine (min_ring r5).mono ?_
          rintro e w6 ⟨rfl, m6, rfl⟩
          have r6 := r5.drewN m6
          have D6 := bel_drewN D5 m6
          have hr8 := act_rem x x0
          have hx8 : ¬ x % 8 < 0 := by omega
          generalize (wr.drewN m6) = w6 at *
          clear hn r5 D5
          rcases HCS.out with ⟨h1, h2⟩ | ⟨h1, h2, h3⟩ | ⟨h1, h2⟩
          · rw [h2]
            generalize someN E = s
            go_wp2
            exact ⟨⟨k + 1, E, by omega, rfl, r6, D6⟩, by simp [intOf]; omega⟩
          · generalize headN E = y at *
            generalize someN E = s
            have hy1 : ((y : Int) == 1) = false := by simpa using h3
            have hy2 : decide (x % 8 < 3) = false := decide_eq_false (by omega)
            go_wp2
            exact ⟨⟨k + 1, E, by omega, rfl, r6, D6⟩, by simp [intOf]; omega⟩
          · subst h2
            go_wp2
            exact ⟨⟨k + 1, [], by omega, rfl, r6, D6⟩, by simp [intOf]; omega⟩
    · go_wp2
      go_ret
      exact ⟨rfl, D⟩

theorem rises_any (m : Int) (A : Option Addr) (c : Nat) (l : List Int) (w : World) (hS : Bts w w.heap.size A l) (lc : l.length ≤ c) (mc : c ≤ maxLen) (m0 : 0 ≤ m) :
    Calls Try.prog 4 #[.int .u16 m, .slice A l.length c] w fun e w' => e = .returned (.bool true) ∧ Below w.heap.size w w' := by
  have el : (l.take 200).length = min l.length 200 := by rw [List.length_take]; omega
  exact rises_core m A l.length c ((m % 4096).toNat + 1) (l.take 200) w (hS.cut 200) lc (by omega) el (by omega) (most_rem m m0) (by omega) (by omega)

end Go.Proofs.Ytblanbopjebenaa
