/- Fold, of bset and of its reference. -/
import Derived.Test.YtbheccbbkolieaaWf
import Derived.Deep.RegionHeld3
namespace Go.Proofs.Ytbheccbbkolieaa
open Go.RowKit

/-- The bytes of p, and of its letters below k (and their capitals) the other case. -/
def foldK (k : Nat) (p : Nat → Bool) (x : Nat) : Bool := p x || (decide (97 ≤ x ∧ x < k) && p (x - 32)) || (decide (65 ≤ x ∧ x + 32 < k) && p (x + 32))
theorem fold_iff (k : Nat) (p : Nat → Bool) (x : Nat) : foldK k p x = true ↔ (p x = true ∨ (97 ≤ x ∧ x < k) ∧ p (x - 32) = true) ∨ (65 ≤ x ∧ x + 32 < k) ∧ p (x + 32) = true := by
  unfold foldK; simp only [Bool.or_eq_true, Bool.and_eq_true, decide_eq_true_eq]
theorem fold_start (p : Nat → Bool) : foldK 97 p = p := by
  funext x
  rw [Bool.eq_iff_iff, fold_iff]
  constructor
  · rintro ((h | ⟨h, _⟩) | ⟨h, _⟩)
    · exact h
    · omega
    · omega
  · exact fun h => .inl (.inl h)
theorem fold_yes (k : Nat) (p : Nat → Bool) (h0 : 97 ≤ k) (h1 : k ≤ 122) (h : p k = true ∨ p (k - 32) = true) : addB (addB (foldK k p) k) (k - 32) = foldK (k + 1) p := by
  funext x
  unfold addB
  rw [Bool.eq_iff_iff, fold_iff, Bool.or_eq_true, Bool.or_eq_true, fold_iff]
  simp only [beq_iff_eq]
  constructor
  · rintro ((((g | ⟨g1, g2⟩) | ⟨g1, g2⟩) | g) | g)
    · exact .inl (.inl g)
    · exact .inl (.inr ⟨by omega, g2⟩)
    · exact .inr ⟨by omega, g2⟩
    · subst g
      rcases h with h | h
      · exact .inl (.inl h)
      · exact .inl (.inr ⟨by omega, h⟩)
    · subst g
      rcases h with h | h
      · exact .inr ⟨by omega, by rw [Nat.sub_add_cancel (by omega)]; exact h⟩
      · exact .inl (.inl h)
  · rintro ((g | ⟨g1, g2⟩) | ⟨g1, g2⟩)
    · exact .inl (.inl (.inl (.inl g)))
    · by_cases e : x = k
      · exact .inl (.inr e)
      · exact .inl (.inl (.inl (.inr ⟨by omega, g2⟩)))
    · by_cases e : x = k - 32
      · exact .inr e
      · exact .inl (.inl (.inr ⟨by omega, g2⟩))
theorem fold_no (k : Nat) (p : Nat → Bool) (h0 : 97 ≤ k) (h1 : k ≤ 122) (h2 : p k = false) (h3 : p (k - 32) = false) : foldK k p = foldK (k + 1) p := by
  funext x
  rw [Bool.eq_iff_iff, fold_iff, fold_iff]
  constructor
  · rintro ((g | ⟨g1, g2⟩) | ⟨g1, g2⟩)
    · exact .inl (.inl g)
    · exact .inl (.inr ⟨by omega, g2⟩)
    · exact .inr ⟨by omega, g2⟩
  · rintro ((g | ⟨g1, g2⟩) | ⟨g1, g2⟩)
    · exact .inl (.inl g)
    · by_cases e : x = k
      · subst e; rw [h3] at g2; cases g2
      · exact .inl (.inr ⟨by omega, g2⟩)
    · by_cases e : x = k - 32
      · subst e; rw [Nat.sub_add_cancel (by omega), h2] at g2; cases g2
      · exact .inr ⟨by omega, g2⟩

set_option maxRecDepth 100000 in
set_option maxHeartbeats 2000000 in
theorem rfold_any (p : Nat → Bool) (w : World) :
    Calls Try.prog 30 #[.agg #[.int .u64 (W (p) 0), .int .u64 (W (p) 1), .int .u64 (W (p) 2), .int .u64 (W (p) 3)]] w fun e w' => e = .returned (.agg #[.int .u64 (W (foldK 123 p) 0), .int .u64 (W (foldK 123 p) 1), .int .u64 (W (foldK 123 p) 2), .int .u64 (W (foldK 123 p) 3)]) ∧ Below w.heap.size w w' := by
  go_enter Try.func30, Try.ntmps30
  go_wp2
  go_loopw [4] (fun i wr => ∃ k : Nat, 97 ≤ k ∧ k ≤ 123 ∧ i = .int .u8 k ∧ Row4 wr w.heap.size p ∧ Row4 wr (w.heap.size + 1) noB ∧ Row4 wr (w.heap.size + 1 + 1) (foldK k p) ∧ Below w.heap.size w wr) (fun i _ => 256 - (intOf i).toNat)
  case atStart =>
    have R1 := Row4.zero (w.alloc (.cells (#[.int .u64 (W (p) 0), .int .u64 (W (p) 1), .int .u64 (W (p) 2), .int .u64 (W (p) 3)]) 27))
    have R2 := Row4.new ((w.alloc (.cells (#[.int .u64 (W (p) 0), .int .u64 (W (p) 1), .int .u64 (W (p) 2), .int .u64 (W (p) 3)]) 27)).alloc (.cells #[.int .u64 0, .int .u64 0, .int .u64 0, .int .u64 0] 27)) p
    rw [World.size_alloc] at R1
    rw [World.size_alloc, World.size_alloc] at R2
    exact ⟨97, by omega, by omega, rfl, ((Row4.new w p).alloc _).alloc _, R1.alloc _, R2.congr (fold_start _).symm, (((Below.refl _ _).alloc (Nat.le_refl _) _).alloc (by simp) _).alloc (by simp; omega) _⟩
  case round =>
    obtain ⟨k, hk0, hk1, rfl, R0, R1, R2, hb⟩ := hrel
    by_cases hlt : k ≤ 122
    · have hk2 : (k : Int) ≤ 122 := by omega
      have hk3 : (97 : Int) ≤ k := by omega
      have HT := hidd (show ((k : Int) - 32).toNat = k - 32 from by omega)
      obtain ⟨c0, c1, c2, c3⟩ := R0.cells
      go_wp2_with fail
      refine (rhas_any p (k : Int) _ (by omega) (by omega)).mono ?_
      rintro e w1 ⟨rfl, hb1⟩
      have Q0 := R0.below hb1 R0.lt
      have Q1 := R1.below hb1 R1.lt
      have Q2 := R2.below hb1 R2.lt
      have hbb := hb.trans (hb1.mono hb.size)
      rw [Int.toNat_natCast]
      clear c0 c1 c2 c3 R0 R1 R2 hb1 hb
      obtain ⟨c0, c1, c2, c3⟩ := Q0.cells
      cases hp : p k with
      | true =>
        have HS := hidd (fold_yes k p hk0 hlt (.inl hp))
        clear c0 c1 c2 c3
        obtain ⟨c0, c1, c2, c3⟩ := Q2.cells
        go_wp2_with fail
        refine (with_any (foldK k p) (k : Int) _ (by omega) (by omega)).mono ?_
        rintro e w2 ⟨rfl, hb2⟩
        have S0 := Q0.below hb2 Q0.lt
        have S1 := Q1.below hb2 Q1.lt
        have S2 := Q2.below hb2 Q2.lt
        have hbc := hbb.trans (hb2.mono hbb.size)
        rw [Int.toNat_natCast]
        clear c0 c1 c2 c3 Q0 Q1 Q2 hb2 hbb
        go_wp2_with fail
        refine (with_any (addB (foldK k p) k) ((k : Int) - 32) _ (by omega) (by omega)).mono ?_
        rintro e w3 ⟨rfl, hb3⟩
        have Q0 := S0.below hb3 S0.lt
        have Q1 := S1.below hb3 S1.lt
        have Q2 := S2.below hb3 S2.lt
        have hbb := hbc.trans (hb3.mono hbc.size)
        rw [HT.out, HS.out]
        clear S0 S1 S2 hb3 hbc
        obtain ⟨c0, c1, c2, c3⟩ := Q2.cells
        have cf := Q2.thawed
        go_wp2
        refine ⟨⟨k + 1, by omega, by omega, rfl, (((Q0.far (by simp; omega) _).far (by simp; omega) _).far (by simp; omega) _).far (by simp; omega) _, (((Q1.far (by simp) _).far (by simp) _).far (by simp) _).far (by simp) _, Q2.fill _, ?_⟩, by simp [intOf]; omega⟩
        exact (((hbb.setCell (by simp; omega) _).setCell (by simp; omega) _).setCell (by simp; omega) _).setCell (by simp; omega) _
      | false =>
        go_wp2_with fail
        refine (rhas_any p ((k : Int) - 32) _ (by omega) (by omega)).mono ?_
        rintro e w0 ⟨rfl, hb2⟩
        have S0 := Q0.below hb2 Q0.lt
        have S1 := Q1.below hb2 Q1.lt
        have S2 := Q2.below hb2 Q2.lt
        have hbc := hbb.trans (hb2.mono hbb.size)
        rw [HT.out]
        clear c0 c1 c2 c3 Q0 Q1 Q2 hb2 hbb
        cases hp2 : p (k - 32) with
        | true =>
          have HS := hidd (fold_yes k p hk0 hlt (.inr hp2))
          have Q0 := S0
          have Q1 := S1
          have Q2 := S2
          have hbb := hbc
          clear S0 S1 S2 hbc
          obtain ⟨c0, c1, c2, c3⟩ := Q2.cells
          go_wp2_with fail
          refine (with_any (foldK k p) (k : Int) _ (by omega) (by omega)).mono ?_
          rintro e w2 ⟨rfl, hb2⟩
          have S0 := Q0.below hb2 Q0.lt
          have S1 := Q1.below hb2 Q1.lt
          have S2 := Q2.below hb2 Q2.lt
          have hbc := hbb.trans (hb2.mono hbb.size)
          rw [Int.toNat_natCast]
          clear c0 c1 c2 c3 Q0 Q1 Q2 hb2 hbb
          go_wp2_with fail
          refine (with_any (addB (foldK k p) k) ((k : Int) - 32) _ (by omega) (by omega)).mono ?_
          rintro e w3 ⟨rfl, hb3⟩
          have Q0 := S0.below hb3 S0.lt
          have Q1 := S1.below hb3 S1.lt
          have Q2 := S2.below hb3 S2.lt
          have hbb := hbc.trans (hb3.mono hbc.size)
          rw [HT.out, HS.out]
          clear S0 S1 S2 hb3 hbc
          obtain ⟨c0, c1, c2, c3⟩ := Q2.cells
          have cf := Q2.thawed
          go_wp2
          refine ⟨⟨k + 1, by omega, by omega, rfl, (((Q0.far (by simp; omega) _).far (by simp; omega) _).far (by simp; omega) _).far (by simp; omega) _, (((Q1.far (by simp) _).far (by simp) _).far (by simp) _).far (by simp) _, Q2.fill _, ?_⟩, by simp [intOf]; omega⟩
          exact (((hbb.setCell (by simp; omega) _).setCell (by simp; omega) _).setCell (by simp; omega) _).setCell (by simp; omega) _
        | false =>
          have HS := hidd (fold_no k p hk0 hlt hp hp2)
          go_wp2
          exact ⟨⟨k + 1, by omega, by omega, rfl, S0, S1, S2.congr HS.out, hbc⟩, by simp [intOf]; omega⟩
    · have hk2 : k = 123 := by omega
      subst hk2
      obtain ⟨c0, c1, c2, c3⟩ := R2.cells
      obtain ⟨r0, r1, r2, r3⟩ := R1.cells
      have rf := R1.thawed
      go_wp2
      exact ret_set Try.results30 rfl (R1.fill _) rfl ⟨rfl, (((hb.setCell (by simp) _).setCell (by simp) _).setCell (by simp) _).setCell (by simp) _⟩

end Go.Proofs.Ytbheccbbkolieaa
