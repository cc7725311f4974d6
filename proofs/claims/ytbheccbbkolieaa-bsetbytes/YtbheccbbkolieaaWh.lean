/- Of and Or, And at lists that are written out; Fold of bset. -/
import Derived.Test.YtbheccbbkolieaaWg
import Derived.Deep.DeepMust
namespace Go.Proofs.Ytbheccbbkolieaa
open Go.RowKit

theorem new_at (w : World) (cs : Array Value) (t : TypeId) (j : Nat) (u : Value) (h : cs[j]? = some u) : (w.alloc (.cells cs t)).cell? ⟨w.heap.size, j, none⟩ = some u := by
  rw [World.cell?_alloc_new]; exact h

theorem of1 (a : Int) (w : World) (a0 : 0 ≤ a) (a1 : a ≤ 255) :
    Calls Try.prog 13 #[.slice (some ⟨w.heap.size, 0, none⟩) 1 1] (w.alloc (.cells #[.int .u8 a] 5)) fun e w' => e = .returned (.agg #[.int .u64 (W (oneB a.toNat) 0), .int .u64 (W (oneB a.toNat) 1), .int .u64 (W (oneB a.toNat) 2), .int .u64 (W (oneB a.toNat) 3)]) ∧ Below w.heap.size w w' := by
  have h := of_any (some ⟨w.heap.size, 0, none⟩) 1 [a] (w.alloc (.cells #[.int .u8 a] 5)) ⟨by simp; omega, fun _ => ⟨_, 0, rfl, by simp, fun i hi => by
    have : i = 0 := by simp at hi; omega
    subst this
    exact new_at _ _ _ _ _ rfl⟩⟩ (by simp)
  have e : inB [a] = oneB a.toNat := by funext x; simp [inB, oneB]
  rw [e] at h
  exact h.mono fun e w' h => ⟨h.1, bel1 h.2⟩

theorem of2 (a b : Int) (w : World) (a0 : 0 ≤ a) (a1 : a ≤ 255) (b0 : 0 ≤ b) (b1 : b ≤ 255) :
    Calls Try.prog 13 #[.slice (some ⟨w.heap.size, 0, none⟩) 2 2] (w.alloc (.cells #[.int .u8 a, .int .u8 b] 5)) fun e w' => e = .returned (.agg #[.int .u64 (W (addB (oneB a.toNat) b.toNat) 0), .int .u64 (W (addB (oneB a.toNat) b.toNat) 1), .int .u64 (W (addB (oneB a.toNat) b.toNat) 2), .int .u64 (W (addB (oneB a.toNat) b.toNat) 3)]) ∧ Below w.heap.size w w' := by
  have h := of_any (some ⟨w.heap.size, 0, none⟩) 2 [a, b] (w.alloc (.cells #[.int .u8 a, .int .u8 b] 5)) ⟨by simp; omega, fun _ => ⟨_, 0, rfl, by simp, fun i hi => by
    have : i = 0 ∨ i = 1 := by simp at hi; omega
    rcases this with rfl | rfl <;> exact new_at _ _ _ _ _ rfl⟩⟩ (by simp)
  have e : inB [a, b] = addB (oneB a.toNat) b.toNat := by funext x; simp [inB, oneB, addB]
  rw [e] at h
  exact h.mono fun e w' h => ⟨h.1, bel1 h.2⟩

theorem of2d (a b : Int) (w : World) (a0 : 0 ≤ a) (a1 : a ≤ 255) (b0 : 0 ≤ b) (b1 : b ≤ 255) :
    Calls Try.prog 13 #[.slice (some ⟨w.heap.size, 0, none⟩) 2 2] (w.alloc (.cells #[.int .u8 a, .int .u8 b] 5)).drew fun e w' => e = .returned (.agg #[.int .u64 (W (addB (oneB a.toNat) b.toNat) 0), .int .u64 (W (addB (oneB a.toNat) b.toNat) 1), .int .u64 (W (addB (oneB a.toNat) b.toNat) 2), .int .u64 (W (addB (oneB a.toNat) b.toNat) 3)]) ∧ Below w.heap.size w w' :=
  Calls.mono (of2 a b w.drew a0 a1 b0 b1) fun _ _ h => ⟨h.1, bel_of_drew h.2⟩

def c8 (p q : Nat → Bool) : Array Value := #[.int .u64 (W p 0), .int .u64 (W p 1), .int .u64 (W p 2), .int .u64 (W p 3), .int .u64 (W q 0), .int .u64 (W q 1), .int .u64 (W q 2), .int .u64 (W q 3)]
theorem sts2 (p q : Nat → Bool) (w : World) : Sts (w.alloc (.cells (c8 p q) 27)) (w.alloc (.cells (c8 p q) 27)).heap.size (some ⟨w.heap.size, 0, none⟩) [p, q] := by
  refine fun _ => ⟨_, 0, rfl, by simp, fun i hi k hk => ?_⟩
  have hi' : i = 0 ∨ i = 1 := by simp at hi; omega
  have hk' : k = 0 ∨ k = 1 ∨ k = 2 ∨ k = 3 := by omega
  rcases hi' with rfl | rfl <;> rcases hk' with rfl | rfl | rfl | rfl <;> exact new_at _ _ _ _ _ rfl
theorem or2 (p q : Nat → Bool) (w : World) :
    Calls Try.prog 16 #[.slice (some ⟨w.heap.size, 0, none⟩) 2 2] (w.alloc (.cells #[.int .u64 (W p 0), .int .u64 (W p 1), .int .u64 (W p 2), .int .u64 (W p 3), .int .u64 (W q 0), .int .u64 (W q 1), .int .u64 (W q 2), .int .u64 (W q 3)] 27)) fun e w' => e = .returned (.agg #[.int .u64 (W (orB p q) 0), .int .u64 (W (orB p q) 1), .int .u64 (W (orB p q) 2), .int .u64 (W (orB p q) 3)]) ∧ Below w.heap.size w w' := by
  have h := or_any _ 2 [p, q] _ (sts2 p q w) (by simp)
  have e : anyB [p, q] = orB p q := by funext x; simp [anyB, orB]
  rw [e] at h
  exact h.mono fun e w' h => ⟨h.1, bel1 h.2⟩
theorem and2 (p q : Nat → Bool) (w : World) :
    Calls Try.prog 18 #[.slice (some ⟨w.heap.size, 0, none⟩) 2 2] (w.alloc (.cells #[.int .u64 (W p 0), .int .u64 (W p 1), .int .u64 (W p 2), .int .u64 (W p 3), .int .u64 (W q 0), .int .u64 (W q 1), .int .u64 (W q 2), .int .u64 (W q 3)] 27)) fun e w' => e = .returned (.agg #[.int .u64 (W (andB p q) 0), .int .u64 (W (andB p q) 1), .int .u64 (W (andB p q) 2), .int .u64 (W (andB p q) 3)]) ∧ Below w.heap.size w w' := by
  have h := and_any _ 2 [p, q] _ (sts2 p q w) (by simp)
  have e : everyB [p, q] = andB p q := by funext x; simp [everyB, andB]
  rw [e] at h
  exact h.mono fun e w' h => ⟨h.1, bel1 h.2⟩

theorem fold_two (k : Nat) (p : Nat → Bool) : orB (foldK k p) (addB (oneB k) (k - 32)) = addB (addB (foldK k p) k) (k - 32) := by
  funext x; simp [orB, addB, oneB, Bool.or_assoc]

set_option maxRecDepth 100000 in
set_option maxHeartbeats 2000000 in
theorem fold_any (p : Nat → Bool) (w : World) :
    Calls Try.prog 29 #[.agg #[.int .u64 (W (p) 0), .int .u64 (W (p) 1), .int .u64 (W (p) 2), .int .u64 (W (p) 3)]] w fun e w' => e = .returned (.agg #[.int .u64 (W (foldK 123 p) 0), .int .u64 (W (foldK 123 p) 1), .int .u64 (W (foldK 123 p) 2), .int .u64 (W (foldK 123 p) 3)]) ∧ Below w.heap.size w w' := by
  go_enter Try.func29, Try.ntmps29
  go_wp2
  go_loopw [4] (fun i wr => ∃ k : Nat, 97 ≤ k ∧ k ≤ 123 ∧ i = .int .u8 k ∧ Row4 wr w.heap.size p ∧ Row4 wr (w.heap.size + 1) noB ∧ Row4 wr (w.heap.size + 1 + 1) (foldK k p) ∧ Below w.heap.size w wr) (fun i _ => 256 - (intOf i).toNat)
  case atStart =>
    have R1 := Row4.zero (w.alloc (.cells (#[.int .u64 (W (p) 0), .int .u64 (W (p) 1), .int .u64 (W (p) 2), .int .u64 (W (p) 3)]) 27))
    have R2 := Row4.new ((w.alloc (.cells (#[.int .u64 (W (p) 0), .int .u64 (W (p) 1), .int .u64 (W (p) 2), .int .u64 (W (p) 3)]) 27)).alloc (.cells #[.int .u64 0, .int .u64 0, .int .u64 0, .int .u64 0] 27)) p
    rw [World.size_alloc] at R1
    rw [World.size_alloc, World.size_alloc] at R2
    exact ⟨97, by omega, by omega, rfl, ((Row4.new w p).alloc _).alloc _, R1.alloc _, R2.congr (fold_start _).symm, (((Below.refl _ _).alloc (Nat.le_refl _) _).alloc (by simp) _).alloc (by simp; omega) _⟩
  case round =>
    obtain ⟨k, hk0, hk1, rfl, R0, R1, R2, hb⟩ := hrel
    by_cases hlt : k ≤ 122
    · have hk2 : (k : Int) ≤ 122 := by omega
      have hk3 : (97 : Int) ≤ k := by omega
      have HT := hidd (show ((k : Int) - 32).toNat = k - 32 from by omega)
      obtain ⟨c0, c1, c2, c3⟩ := R0.cells
      go_wp2_with fail
      refine (has_any p (k : Int) _ (by omega) (by omega)).mono ?_
      rintro e w1 ⟨rfl, hb1⟩
      have Q0 := R0.below hb1 R0.lt
      have Q1 := R1.below hb1 R1.lt
      have Q2 := R2.below hb1 R2.lt
      have hbb := hb.trans (hb1.mono hb.size)
      rw [Int.toNat_natCast]
      clear c0 c1 c2 c3 R0 R1 R2 hb1 hb
      obtain ⟨c0, c1, c2, c3⟩ := Q0.cells
      cases hp : p k with
      | true =>
        have HS := hidd (fold_yes k p hk0 hlt (.inl hp))
        clear c0 c1 c2 c3
        obtain ⟨c0, c1, c2, c3⟩ := Q2.cells
        have hzz := Q2.lt
        have hwr : IntKind.u8.wrap ((k : Int) - 32) = (k : Int) - 32 := by rw [IntKind.wrap_u8']; omega
        go_wp2
        go_region_with (first | (go_at_call 13; refine (of2d (k : Int) ((k : Int) - 32) _ (by omega) (by omega) (by omega) (by omega)).mono ?_; rintro e w2 ⟨rfl, hb2⟩; have T2 := Q2.below hb2 Q2.lt; obtain ⟨d0, d1, d2, d3⟩ := T2.cells) | (go_at_call 16; refine (or2 _ _ _).mono ?_; rintro e w3 ⟨rfl, hb3⟩; have T3 := T2.below hb3 T2.lt; obtain ⟨e0, e1, e2, e3⟩ := T3.cells; have ef := T3.thawed))
        all_goals
          go_wp2
          have U0 := Q0.below hb2 Q0.lt
          have V0 := U0.below hb3 U0.lt
          have U1 := Q1.below hb2 Q1.lt
          have V1 := U1.below hb3 U1.lt
          have hbc := hbb.trans (hb2.mono hbb.size)
          have hbd := hbc.trans (hb3.mono hbc.size)
          try rw [HT.out]
          rw [fold_two, HS.out]
          refine ⟨⟨k + 1, by omega, by omega, rfl, (((V0.far (by simp; omega) _).far (by simp; omega) _).far (by simp; omega) _).far (by simp; omega) _, (((V1.far (by simp) _).far (by simp) _).far (by simp) _).far (by simp) _, T3.fill _, ?_⟩, by simp [intOf]; omega⟩
          exact (((hbd.setCell (by simp; omega) _).setCell (by simp; omega) _).setCell (by simp; omega) _).setCell (by simp; omega) _
      | false =>
        go_wp2_with fail
        refine (has_any p ((k : Int) - 32) _ (by omega) (by omega)).mono ?_
        rintro e w0 ⟨rfl, hb2⟩
        have S0 := Q0.below hb2 Q0.lt
        have S1 := Q1.below hb2 Q1.lt
        have S2 := Q2.below hb2 Q2.lt
        have hbc := hbb.trans (hb2.mono hbb.size)
        rw [HT.out]
        clear Q0 Q1 Q2 hb2 hbb
        cases hp2 : p (k - 32) with
        | true =>
          have HS := hidd (fold_yes k p hk0 hlt (.inr hp2))
          have Q0 := S0
          have Q1 := S1
          have Q2 := S2
          have hbb := hbc
          clear S0 S1 S2 hbc
          clear c0 c1 c2 c3
          obtain ⟨c0, c1, c2, c3⟩ := Q2.cells
          have hzz := Q2.lt
          have hwr : IntKind.u8.wrap ((k : Int) - 32) = (k : Int) - 32 := by rw [IntKind.wrap_u8']; omega
          go_wp2
          go_region_with (first | (go_at_call 13; refine (of2d (k : Int) ((k : Int) - 32) _ (by omega) (by omega) (by omega) (by omega)).mono ?_; rintro e w2 ⟨rfl, hb2⟩; have T2 := Q2.below hb2 Q2.lt; obtain ⟨d0, d1, d2, d3⟩ := T2.cells) | (go_at_call 16; refine (or2 _ _ _).mono ?_; rintro e w3 ⟨rfl, hb3⟩; have T3 := T2.below hb3 T2.lt; obtain ⟨e0, e1, e2, e3⟩ := T3.cells; have ef := T3.thawed))
          all_goals
            go_wp2
            have U0 := Q0.below hb2 Q0.lt
            have V0 := U0.below hb3 U0.lt
            have U1 := Q1.below hb2 Q1.lt
            have V1 := U1.below hb3 U1.lt
            have hbc := hbb.trans (hb2.mono hbb.size)
            have hbd := hbc.trans (hb3.mono hbc.size)
            try rw [HT.out]
            rw [fold_two, HS.out]
            refine ⟨⟨k + 1, by omega, by omega, rfl, (((V0.far (by simp; omega) _).far (by simp; omega) _).far (by simp; omega) _).far (by simp; omega) _, (((V1.far (by simp) _).far (by simp) _).far (by simp) _).far (by simp) _, T3.fill _, ?_⟩, by simp [intOf]; omega⟩
            exact (((hbd.setCell (by simp; omega) _).setCell (by simp; omega) _).setCell (by simp; omega) _).setCell (by simp; omega) _
        | false =>
          have HS := hidd (fold_no k p hk0 hlt hp hp2)
          clear c0 c1 c2 c3
          go_wp2
          exact ⟨⟨k + 1, by omega, by omega, rfl, S0, S1, S2.congr HS.out, hbc⟩, by simp [intOf]; omega⟩
    · have hk2 : k = 123 := by omega
      subst hk2
      obtain ⟨c0, c1, c2, c3⟩ := R2.cells
      obtain ⟨r0, r1, r2, r3⟩ := R1.cells
      have rf := R1.thawed
      go_wp2
      exact ret_set Try.results29 rfl (R1.fill _) rfl ⟨rfl, (((hb.setCell (by simp) _).setCell (by simp) _).setCell (by simp) _).setCell (by simp) _⟩

end Go.Proofs.Ytbheccbbkolieaa
