/- The law RingClear. -/
import Derived.Test.YtblanbopjebenaaKg
namespace Go.Proofs.Ytblanbopjebenaa
open Go.RowKit

theorem work_ring {w : World} {g h n k : Nat} {C : List Nat} (r : RingS w g h n C k) :
    Calls Try.prog 23 #[.pointer (some ⟨g, 0, none⟩)] w fun e w' => e = .returned (.int .i64 (k : Int)) ∧ w' = w := by
  obtain ⟨hr, now, old, f, r⟩ := r
  exact work_any r
theorem len_ring {w : World} {g h n k : Nat} {C : List Nat} (r : RingS w g h n C k) :
    Calls Try.prog 22 #[.pointer (some ⟨g, 0, none⟩)] w fun e w' => e = .returned (.int .i64 (C.length : Int)) ∧ w' = w := by
  obtain ⟨hr, now, old, f, r⟩ := r
  exact len_any r

/-- Two rings side by side. -/
structure Two (w : World) (g h g2 h2 n : Nat) (C E : List Nat) (k j : Nat) : Prop where
  a : RingS w g h n C k
  b : RingS w g2 h2 n E j
  f1 : g ≠ g2
  f2 : g ≠ h2
  f3 : h ≠ g2
  f4 : h ≠ h2
section
variable {w w' : World} {g h g2 h2 n k j : Nat} {C E : List Nat}
theorem Two.act1 {C' : List Nat} {k' : Nat} (s : Two w g h g2 h2 n C E k j) (r : RingS w' g h n C' k') (t : Touch g h w w') : Two w' g h g2 h2 n C' E k' j :=
  ⟨r, s.b.touch t s.f1.symm s.f3.symm s.f2.symm s.f4.symm, s.f1, s.f2, s.f3, s.f4⟩
theorem Two.act2 {E' : List Nat} {j' : Nat} (s : Two w g h g2 h2 n C E k j) (r : RingS w' g2 h2 n E' j') (t : Touch g2 h2 w w') : Two w' g h g2 h2 n C E' k j' :=
  ⟨s.a.touch t s.f1 s.f2 s.f3 s.f4, r, s.f1, s.f2, s.f3, s.f4⟩
theorem Two.belw (s : Two w g h g2 h2 n C E k j) (b : Below w.heap.size w w') : Two w' g h g2 h2 n C E k j := ⟨s.a.belw b, s.b.belw b, s.f1, s.f2, s.f3, s.f4⟩
theorem Two.drewN (s : Two w g h g2 h2 n C E k j) (m : Nat) : Two (w.drewN m) g h g2 h2 n C E k j := ⟨s.a.drewN m, s.b.drewN m, s.f1, s.f2, s.f3, s.f4⟩
end

set_option maxRecDepth 100000 in
set_option maxHeartbeats 4000000 in
theorem clear_core (m : Int) (A A2 : Option Addr) (n c n2 c2 N : Nat) (xs ys : List Int) (w : World) (hX0 : Bts w w.heap.size A xs) (lc : n ≤ c) (mc : n ≤ maxLen) (el : Hid (xs.length = min n 200)) (lx : xs.length ≤ 200)
    (hY0 : Bts w w.heap.size A2 ys) (lc2 : n2 ≤ c2) (mc2 : n2 ≤ maxLen) (el2 : Hid (ys.length = min n2 200)) (ly : ys.length ≤ 200) (hq : Int.tmod m 4096 = (N : Int) - 1) (N1 : 1 ≤ N) (N2 : N ≤ 4096) :
    Calls Try.prog 7 #[.int .u16 m, .slice A n c, .slice A2 n2 c2] w fun e w' => e = .returned (.bool true) ∧ Below w.heap.size w w' := by
  go_enter Try.func7, Try.ntmps7
  go_wp2_with fail
  refine (shown_any _).mono ?_
  rintro e w1 ⟨rfl, b1⟩
  go_wp2_with fail
  refine (new_any N w1 N1 N2).mono ?_
  rintro e w2 ⟨rfl, r2, b2⟩
  go_wp2_with fail
  refine (new_any N w2 N1 N2).mono ?_
  rintro e w3 ⟨rfl, r3, b3⟩
  have hl2 := r2.lts
  have s3 : Two w3 (w1.heap.size + 1) w1.heap.size (w2.heap.size + 1) w2.heap.size N [] [] 0 0 := ⟨r2.belw b3, r3, by omega, by omega, by omega, by omega⟩
  have D2 := b1.trans (b2.mono b1.size)
  have D3 := D2.trans (b3.mono D2.size)
  have hg1 : w.heap.size ≤ w1.heap.size + 1 := Nat.le_succ_of_le b1.size
  have hg2 : w.heap.size ≤ w1.heap.size := b1.size
  have hg3 : w.heap.size ≤ w2.heap.size + 1 := Nat.le_succ_of_le D2.size
  have hg4 : w.heap.size ≤ w2.heap.size := D2.size
  generalize w1.heap.size + 1 = g at *
  generalize w1.heap.size = h at *
  generalize w2.heap.size + 1 = g2 at *
  generalize w2.heap.size = h2 at *
  clear b1 b2 b3 D2 hq r2 r3 hl2
  go_wp2_with fail
  refine (few_any A n c _ mc lc).mono ?_
  rintro e w4 ⟨rfl, rfl⟩
  rw [← el.out]
  go_wp2
  go_loopw [50] (fun i wr => ∃ (k : Nat) (C : List Nat), k ≤ xs.length ∧ i = .int .i64 k ∧ Two wr g h g2 h2 N C [] k 0 ∧ Below w.heap.size w wr) (fun i _ => xs.length - (intOf i).toNat)
  case atStart => exact ⟨0, [], Nat.zero_le _, rfl, s3, D3⟩
  case round =>
    obtain ⟨k, C, hk0, rfl, s, D⟩ := hrel
    by_cases hlt : k < xs.length
    · obtain ⟨ga, off, rfl, hga, cx, x0, x1⟩ := (hX0.below D).at_ hlt
      generalize xs.getD k 0 = x at *
      clear s3 D3
      go_wp2_with fail
      refine (does_any s.a (by omega) x x0 x1).mono ?_
      rintro e w5 ⟨rfl, r5, t5⟩
      go_wp2
      exact ⟨⟨k + 1, _, by omega, rfl, s.act1 r5 t5, t5.bel D D.size hg1 hg2⟩, by simp [intOf]; omega⟩
    · have hk : k = xs.length := by omega
      subst hk
      clear s3 D3 hlt
      go_wp2_with fail
      refine (clear_any s.a (by omega)).mono ?_
      rintro e w5 ⟨rfl, r5, t5⟩
      have s5 := s.act1 r5 t5
      have D5 := t5.bel D D.size hg1 hg2
      clear s r5 t5 D
      go_wp2_with fail
      refine (work_ring s5.a).mono ?_
      rintro e w6 ⟨rfl, rfl⟩
      go_wp2_with fail
      refine (few_any A2 n2 c2 _ mc2 lc2).mono ?_
      rintro e w7 ⟨rfl, rfl⟩
      rw [← el2.out]
      have HK : Hid (((xs.length + 1 : Nat) : Int) = (xs.length : Int) + 1) := by show _ = _; omega
      generalize hKe : xs.length + 1 = K at *
      have hK2 : K ≤ 201 := by omega
      go_wp2
      go_loopw [65] (fun i wr => ∃ (j : Nat) (C : List Nat), j ≤ ys.length ∧ i = .int .i64 j ∧ Two wr g h g2 h2 N C C (K + j) j ∧ Below w.heap.size w wr) (fun i _ => ys.length - (intOf i).toNat)
      case atStart => exact ⟨0, [], Nat.zero_le _, rfl, s5, D5⟩
      case round =>
        obtain ⟨j, C2, hj0, rfl, s, D⟩ := hrel
        clear s5 D5
        by_cases hlt : j < ys.length
        · obtain ⟨ga, off, rfl, hga, cx, x0, x1⟩ := (hY0.below D).at_ hlt
          generalize ys.getD j 0 = x at *
          go_wp2_with fail
          refine (does_any s.a (by omega) x x0 x1).mono ?_
          rintro e w8 ⟨rfl, r8, t8⟩
          have s8 := s.act1 r8 t8
          have D8 := t8.bel D D.size hg1 hg2
          clear s r8 t8 D cx
          go_wp2_with fail
          refine (does_any s8.b (by omega) x x0 x1).mono ?_
          rintro e w9 ⟨rfl, r9, t9⟩
          have s9 := s8.act2 r9 t9
          have D9 := t9.bel D8 D8.size hg3 hg4
          clear s8 r9 t9 D8
          generalize actL N x C2 = E at *
          go_wp2_with fail
          refine (list_nts s9.a).mono ?_
          rintro e w10 ⟨A5, c5, rfl, hn, b5⟩
          have s10 := s9.belw b5
          have D10 := D9.trans (b5.mono D9.size)
          clear s9 D9 b5
          go_wp2_with fail
          refine (list_nts s10.b).mono ?_
          rintro e w11 ⟨A6, c6, rfl, hn2, b6⟩
          have s11 := s10.belw b6
          have D11 := D10.trans (b6.mono D10.size)
          have hn1 := hn.below b6
          have hE := s11.a.len
          clear s10 D10 b6 hn
          go_wp2_with fail
          refine (ints_same A5 A6 c5 c6 E _ _ _ hn1 hn2 (by omega)).mono ?_
          rintro e w12 ⟨rfl, mm, rfl⟩
          have s12 := s11.drewN mm
          have D12 := bel_drewN D11 mm
          generalize w11.drewN mm = w12 at *
          clear s11 D11 hn1 hn2
          go_wp2_with fail
          refine (work_ring s12.a).mono ?_
          rintro e w13 ⟨rfl, rfl⟩
          have hsub : (((K + j + 1 : Nat) : Int)) = (K : Int) + ((j : Int) + 1) := by omega
          rw [hsub]
          go_wp2_with fail
          refine (work_ring s12.b).mono ?_
          rintro e w13 ⟨rfl, rfl⟩
          go_wp2
          exact ⟨⟨j + 1, E, by omega, rfl, s12, D12⟩, by simp [intOf]; omega⟩
        · have hj : j = ys.length := by omega
          subst hj
          go_wp2_with fail
          refine (few_any A n c _ mc lc).mono ?_
          rintro e w8 ⟨rfl, rfl⟩
          rw [← el.out]
          have hKx : (K : Int) = (xs.length : Int) + 1 := HK.out
          go_wp2
          go_ret
          exact ⟨rfl, D⟩

theorem clears_any (m : Int) (A : Option Addr) (c : Nat) (l : List Int) (A2 : Option Addr) (c2 : Nat) (l2 : List Int) (w : World) (hS : Bts w w.heap.size A l) (lc : l.length ≤ c) (mc : c ≤ maxLen)
    (hS2 : Bts w w.heap.size A2 l2) (lc2 : l2.length ≤ c2) (mc2 : c2 ≤ maxLen) (m0 : 0 ≤ m) :
    Calls Try.prog 7 #[.int .u16 m, .slice A l.length c, .slice A2 l2.length c2] w fun e w' => e = .returned (.bool true) ∧ Below w.heap.size w w' := by
  have el : (l.take 200).length = min l.length 200 := by rw [List.length_take]; omega
  have el2 : (l2.take 200).length = min l2.length 200 := by rw [List.length_take]; omega
  exact clear_core m A A2 l.length c l2.length c2 ((m % 4096).toNat + 1) (l.take 200) (l2.take 200) w (hS.cut 200) lc (by omega) el (by omega) (hS2.cut 200) lc2 (by omega) el2 (by omega) (most_rem m m0) (by omega) (by omega)

end Go.Proofs.Ytblanbopjebenaa
