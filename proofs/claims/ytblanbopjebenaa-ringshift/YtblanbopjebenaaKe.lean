/- List, of the ring; the laws' own small functions. -/
import Derived.Test.YtblanbopjebenaaKd
namespace Go.Proofs.Ytblanbopjebenaa
open Go.RowKit

theorem take_next (C : List Nat) (j : Nat) (h : j < C.length) : C.take (j + 1) = C.take j ++ [C.getD j 0] := by
  rw [List.take_succ_eq_append_getElem h, List.getD_eq_getElem?_getD, List.getElem?_eq_getElem h]; rfl

set_option maxHeartbeats 1000000 in
theorem list_any {w : World} {g h n now old k : Nat} {f : Nat → Int} {C : List Nat} (r : Raw w g h n now old k f C) :
    Calls Try.prog 21 #[.pointer (some ⟨g, 0, none⟩)] w fun e w' => ∃ v, e = .returned v ∧ w'.ownsRow w.heap.size 3 1 v C.length (i64s C) ∧ Below w.heap.size w w' := by
  obtain ⟨i0, hi0, hz0, hz1, hz2⟩ := info_parts int_info
  have hlen := r.len
  have hn2 := r.n2
  go_enter Try.func21, Try.ntmps21
  go_wp2_with fail
  refine (len_any r).mono ?_
  rintro e w1 ⟨rfl, rfl⟩
  go_wp2
  go_loopw [3, 4] (fun l i wr => ∃ j : Nat, j ≤ C.length ∧ i = .int .i64 ((C.length : Int) - 1 - (j : Int)) ∧ wr.ownsRow w1.heap.size 3 1 l j (i64s (C.take j)) ∧ Below w1.heap.size w1 wr) (fun _ i _ => (intOf i + 1).toNat)
  case atStart => exact ⟨0, Nat.zero_le _, by simp, World.ownsRow_nil _ _ _ _, Below.refl _ _⟩
  case round =>
    obtain ⟨j, hj0, rfl, hown, hb⟩ := hrel
    by_cases hlt : j < C.length
    · have hcn := count_any (r.belw hb) (C.length - 1 - j) (by omega)
      rw [show C.length - 1 - (C.length - 1 - j) = j from by omega, show ((C.length - 1 - j : Nat) : Int) = (C.length : Int) - 1 - (j : Int) from by omega] at hcn
      have HT := hidd (take_next C j hlt)
      have hle := r.le _ (getD_mem hlt)
      generalize C.getD j 0 = x at *
      have hbs := hb.size
      go_wp2_with fail
      refine hcn.mono ?_
      rintro e w2 ⟨rfl, m, rfl⟩
      have hown1 : (wr.drewN m).ownsRow w1.heap.size 3 1 u3 j (i64s (C.take j)) := hown
      have hb1 := bel_drewN hb m
      go_wp2_with (at_builtin; refine wpList_append_own _ rfl (.tmp 12) (.tmp 16) 32 rfl w1.heap.size 3 i0 (.int .i64 0) 1 8 Try.underlying32 hi0 hz0 hz1 hz2 rfl (by omega) _ _ _ rfl (hown1.alloc _) ⟨wr.heap.size, 0, none⟩ 1 1 [.int .i64 (x : Int)] rfl rfl (cell_one_new _ _ _) (by simp [Value.oneCell']) (by simp only [maxLen]; omega) (by omega) (by simp; omega) ?_; intro v2 w2 hown2 hg2 _)
      change ((wr.drewN m).alloc _).grownBy w2 u3.ownBlock at hg2
      have hlt2 := hown1.lt
      refine ⟨⟨j + 1, by omega, by simp; omega, ?_, (hb1.alloc (by simp; omega) _).grown hg2 (by simp; omega) (fun j e => ?_)⟩, by simp [intOf]; omega⟩
      · rw [HT.out, ← i64s_snoc]; exact hown2
      · have := (hlt2 _ e).1; omega
    · have hj2 : j = C.length := by omega
      subst hj2
      rw [List.take_length] at hown
      have hneg : ¬ ((C.length : Int) - 1 - (C.length : Int) ≥ 0) := by omega
      go_wp2
      go_ret
      exact ⟨_, rfl, hown, hb⟩
theorem list_nil (w : World) : Calls Try.prog 21 #[.pointer none] w fun e w' => e = .returned (.slice none 0 0) ∧ w' = w := by
  go_enter Try.func21, Try.ntmps21
  go_wp2_with fail
  refine (len_nil w).mono ?_
  rintro e w1 ⟨rfl, rfl⟩
  go_wp2
  go_loopw [3, 4] (fun l i wr => l = .slice none 0 0 ∧ i = .int .i64 (-1) ∧ wr = w1) (fun _ i _ => (intOf i + 1).toNat)
  case atStart => exact ⟨rfl, rfl, rfl⟩
  case round =>
    obtain ⟨rfl, rfl, rfl⟩ := hrel
    go_wp2
    go_ret
    exact ⟨rfl, rfl⟩

set_option maxHeartbeats 1000000 in
theorem ints_any (A A2 : Option Addr) (c c2 : Nat) (xs ys : List Nat) (w : World) (B B2 : Nat) (hx : Nts w B A xs) (hy : Nts w B2 A2 ys) (lx : xs.length ≤ 1000000) :
    Calls Try.prog 20 #[.slice A xs.length c, .slice A2 ys.length c2] w fun e w' => e = .returned (.bool (decide (xs = ys))) ∧ ∃ m, w' = w.drewN m := by
  by_cases hl : xs.length = ys.length
  · go_enter Try.func20, Try.ntmps20
    go_wp2
    go_loopw [13] (fun i wr => ∃ k : Nat, k ≤ xs.length ∧ i = .int .i64 k ∧ xs.take k = ys.take k ∧ ∃ m, wr = w.drewN m) (fun i _ => xs.length - (intOf i).toNat)
    case atStart => exact ⟨0, Nat.zero_le _, rfl, rfl, 0, rfl⟩
    case round =>
      obtain ⟨k, hk0, rfl, he, m, rfl⟩ := hrel
      by_cases hlt : k < xs.length
      · obtain ⟨g, off, rfl, -, cx⟩ := hx.at_ hlt
        obtain ⟨g2, off2, rfl, -, cy⟩ := hy.at_ (k := k) (by omega)
        have HX := hidd (take_next xs k hlt)
        have HY := hidd (take_next ys k (by omega))
        have HE := hidd he
        clear he
        have hki : (k : Int) < (xs.length : Int) := by omega
        have hki2 : (k : Int) < (ys.length : Int) := by omega
        by_cases hxy : xs.getD k 0 = ys.getD k 0
        · have HN : Hid (xs.take (k + 1) = ys.take (k + 1)) := by show xs.take (k + 1) = ys.take (k + 1); rw [HX.out, HY.out, HE.out, hxy]
          rw [hxy] at cx
          clear HX HY HE hxy
          generalize ys.getD k 0 = y at *
          go_wp2
          go_quiet (fail)
          go_wp2
          exact ⟨⟨k + 1, by omega, rfl, HN.out, _, rfl⟩, by simp [intOf]; omega⟩
        · have HN : Hid (decide (xs = ys) = false) := decide_eq_false fun e => hxy (by rw [e])
          clear HX HY HE
          generalize xs.getD k 0 = x at *
          generalize ys.getD k 0 = y at *
          have hne : ¬ (x : Int) = (y : Int) := by omega
          go_wp2
          go_quiet (fail)
          go_wp2
          go_ret
          exact ⟨by rw [HN.out]; rfl, m + nq, World.drewN_drewN ..⟩
      · have hk : k = xs.length := by omega
        subst hk
        have HE : Hid (decide (xs = ys) = true) := by
          show decide (xs = ys) = true
          rw [List.take_length, hl, List.take_length] at he
          exact decide_eq_true he
        go_wp2
        go_ret
        exact ⟨by rw [HE.out]; rfl, m, rfl⟩
  · have HN : Hid (decide (xs = ys) = false) := decide_eq_false fun e => hl (by rw [e])
    have hl2 : ¬ (xs.length : Int) = (ys.length : Int) := by omega
    go_enter Try.func20, Try.ntmps20
    go_wp2
    go_ret
    exact ⟨by rw [HN.out]; rfl, 0, rfl⟩

theorem ints_same (A A2 : Option Addr) (c c2 : Nat) (xs : List Nat) (w : World) (B B2 : Nat) (hx : Nts w B A xs) (hy : Nts w B2 A2 xs) (lx : xs.length ≤ 1000000) :
    Calls Try.prog 20 #[.slice A xs.length c, .slice A2 xs.length c2] w fun e w' => e = .returned (.bool true) ∧ ∃ m, w' = w.drewN m := by
  have h := ints_any A A2 c c2 xs xs w B B2 hx hy lx
  rw [decide_eq_true rfl] at h
  exact h
theorem few_any (A : Option Addr) (n c : Nat) (w : World) (mc : n ≤ maxLen) (lc : n ≤ c) :
    Calls Try.prog 12 #[.slice A n c] w fun e w' => e = .returned (.slice A (min n 200) c) ∧ w' = w := by
  unfold maxLen at mc
  go_enter Try.func12, Try.ntmps12
  go_wp2
  · go_ret
    refine ⟨?_, rfl⟩
    rw [Nat.min_eq_right (by omega)]; rfl
  · go_ret
    refine ⟨?_, rfl⟩
    rw [Nat.min_eq_left (by omega)]; rfl

/-- An act, of a ring, and of none. -/
theorem act_rem (a : Int) (a0 : 0 ≤ a) : IntKind.u8.wrap (Int.tmod a 8) = a % 8 := by
  rw [Int.tmod_eq_emod_of_nonneg a0, IntKind.wrap_u8']
  omega
set_option maxHeartbeats 400000 in
theorem does_any {w : World} {g h n k : Nat} {C : List Nat} (r : RingS w g h n C k) (hk : k + 1 ≤ 1000000) (a : Int) (a0 : 0 ≤ a) (a1 : a ≤ 255) :
    Calls Try.prog 13 #[.pointer (some ⟨g, 0, none⟩), .int .u8 a] w fun e w' => e = .returned (.tuple #[]) ∧ RingS w' g h n (actL n a C) (k + 1) ∧ Touch g h w w' := by
  have hq := act_rem a a0
  by_cases h1 : a % 8 < 3
  · go_enter Try.func13, Try.ntmps13
    go_wp2_with fail
    refine (Pu.put_any r hk).mono ?_
    rintro e w1 ⟨rfl, r1, t1⟩
    go_wp2
    go_end0
    exact ⟨rfl, by unfold actL; rw [if_pos h1]; exact r1, t1⟩
  · by_cases h2 : a % 8 < 7
    · go_enter Try.func13, Try.ntmps13
      go_wp2_with fail
      refine (inc_any r hk).mono ?_
      rintro e w1 ⟨rfl, r1, t1⟩
      go_wp2
      go_end0
      exact ⟨rfl, by unfold actL; rw [if_neg (by omega), if_pos h2]; exact r1, t1⟩
    · go_enter Try.func13, Try.ntmps13
      go_wp2_with fail
      refine (clear_any r hk).mono ?_
      rintro e w1 ⟨rfl, r1, t1⟩
      go_wp2
      go_end0
      exact ⟨rfl, by unfold actL; rw [if_neg (by omega), if_neg (by omega)]; exact r1, t1⟩
theorem does_nil (w : World) (a : Int) (a0 : 0 ≤ a) (a1 : a ≤ 255) :
    Calls Try.prog 13 #[.pointer none, .int .u8 a] w fun e w' => e = .returned (.tuple #[]) ∧ w' = w := by
  have hq := act_rem a a0
  by_cases h1 : a % 8 < 3
  · go_enter Try.func13, Try.ntmps13
    go_wp2_with fail
    refine (put_nilr w).mono ?_
    rintro e w1 ⟨rfl, rfl⟩
    go_wp2
    go_end0
    exact ⟨rfl, rfl⟩
  · by_cases h2 : a % 8 < 7
    · go_enter Try.func13, Try.ntmps13
      go_wp2_with fail
      refine (inc_nilr w).mono ?_
      rintro e w1 ⟨rfl, rfl⟩
      go_wp2
      go_end0
      exact ⟨rfl, rfl⟩
    · go_enter Try.func13, Try.ntmps13
      go_wp2_with fail
      refine (clear_nil w).mono ?_
      rintro e w1 ⟨rfl, rfl⟩
      go_wp2
      go_end0
      exact ⟨rfl, rfl⟩

/-- List, read as numbers. -/
theorem list_nts {w : World} {g h n k : Nat} {C : List Nat} (r : RingS w g h n C k) :
    Calls Try.prog 21 #[.pointer (some ⟨g, 0, none⟩)] w fun e w' => ∃ A c, e = .returned (.slice A C.length c) ∧ Nts w' w'.heap.size A C ∧ Below w.heap.size w w' := by
  obtain ⟨hr, now, old, f, r⟩ := r
  refine (list_any r).mono ?_
  rintro e w' ⟨v, rfl, ho, hb⟩
  obtain ⟨A, c, rfl, hn⟩ := Nts.of_own ho
  exact ⟨A, c, rfl, hn, hb⟩
theorem RingS.len {w : World} {g h n k : Nat} {C : List Nat} (r : RingS w g h n C k) : C.length ≤ 4096 := by
  obtain ⟨hr, now, old, f, r⟩ := r
  exact Nat.le_trans r.len r.n2

theorem nts_lit (w : World) (xs : List Nat) : Nts (w.alloc (.cells (i64s xs).toArray 3)) (w.alloc (.cells (i64s xs).toArray 3)).heap.size (some ⟨w.heap.size, 0, none⟩) xs := by
  refine fun _ => ⟨_, 0, rfl, by simp, fun i hi => ?_⟩
  rw [World.cell?_alloc_new, Nat.zero_add, List.getElem?_toArray]
  exact i64s_at xs i hi

set_option maxRecDepth 100000 in
set_option maxHeartbeats 1000000 in
theorem shown_any (w : World) : Calls Try.prog 9 #[] w fun e w' => e = .returned (.bool true) ∧ Below w.heap.size w w' := by
  go_enter Try.func9, Try.ntmps9
  go_wp2_with fail
  refine (new_any 3 w (by omega) (by omega)).mono ?_
  rintro e w1 ⟨rfl, r1, b1⟩
  go_wp2_with fail
  refine (Pu.put_any r1 (by omega)).mono ?_
  rintro e w2 ⟨rfl, r2, t2⟩
  go_wp2_with fail
  refine (inc_any r2 (by omega)).mono ?_
  rintro e w3 ⟨rfl, r3, t3⟩
  go_wp2_with fail
  refine (Pu.put_any r3 (by omega)).mono ?_
  rintro e w4 ⟨rfl, r4, t4⟩
  go_wp2_with fail
  refine (inc_any r4 (by omega)).mono ?_
  rintro e w5 ⟨rfl, r5, t5⟩
  have D5 := (((t2.trans t3).trans t4).trans t5).bel b1 b1.size (by omega) (Nat.le_refl _)
  have e5 : incL 3 (putL (incL 3 (putL []))) = [2, 3] := by decide
  rw [e5] at r5
  clear r1 r2 r3 r4 t2 t3 t4 t5 b1 e5
  go_wp2_with fail
  refine (list_nts r5).mono ?_
  rintro e w6 ⟨A, c, rfl, hn, b6⟩
  have r6 := r5.belw b6
  have D6 := D5.trans (b6.mono D5.size)
  have hn2 := nts_lit w6 [2, 3]
  have b7 : Below w6.heap.size w6 (w6.alloc (.cells #[.int .i64 2, .int .i64 3] 3)) := (Below.refl _ _).alloc (Nat.le_refl _) _
  have hi := ints_same A (some ⟨w6.heap.size, 0, none⟩) c 2 [2, 3] (w6.alloc (.cells #[.int .i64 2, .int .i64 3] 3)) w6.heap.size _ (hn.below b7) hn2 (by decide)
  have r7 := r6.belw b7
  have D7 := D6.trans (b7.mono D6.size)
  clear r5 r6 b6 D5 D6 hn hn2
  go_wp2_with fail
  refine hi.mono ?_
  rintro e w8 ⟨rfl, m, rfl⟩
  have r8 := r7.drewN m
  have D8 := bel_drewN D7 m
  generalize (w6.alloc (.cells #[.int .i64 2, .int .i64 3] 3)).drewN m = w8 at *
  clear r7 D7 b7 hi
  go_wp2_with fail
  refine (inc_any r8 (by omega)).mono ?_
  rintro e w9 ⟨rfl, r9, t9⟩
  have D9 := t9.bel D8 D8.size (by omega) (Nat.le_refl _)
  have e9 : incL 3 [2, 3] = [3] := by decide
  rw [e9] at r9
  go_wp2_with fail
  refine (list_nts r9).mono ?_
  rintro e w10 ⟨A2, c2, rfl, hn, b10⟩
  have D10 := D9.trans (b10.mono D9.size)
  have hn2 := nts_lit w10 [3]
  have b11 : Below w10.heap.size w10 (w10.alloc (.cells #[.int .i64 3] 3)) := (Below.refl _ _).alloc (Nat.le_refl _) _
  have hi := ints_same A2 (some ⟨w10.heap.size, 0, none⟩) c2 1 [3] (w10.alloc (.cells #[.int .i64 3] 3)) w10.heap.size _ (hn.below b11) hn2 (by decide)
  have D11 := D10.trans (b11.mono D10.size)
  clear r8 D8 t9 r9 D9 D10 b10 hn hn2
  go_wp2_with fail
  refine hi.mono ?_
  rintro e w12 ⟨rfl, m2, rfl⟩
  go_wp2
  go_ret
  exact ⟨rfl, bel_drewN D11 m2⟩
end Go.Proofs.Ytblanbopjebenaa
