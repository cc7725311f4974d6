/- The walk of BsetFolds: folding twice is folding once; of two sets together it is both folded; nothing but letters comes. -/
import Derived.Test.YtbheccbbkolieaaBx
namespace Go.Proofs.Ytbheccbbkolieaa
open Go.RowKit

def lettersB : Nat → Bool := orB (rngB 97 123) (rngB 65 91)
theorem fold_twice (p : Nat → Bool) : eqB (foldK 123 (foldK 123 p)) (foldK 123 p) = true := by
  refine eqB_true fun x _ => ?_
  rw [Bool.eq_iff_iff, fold_iff, fold_iff (x := x - 32), fold_iff (x := x + 32), fold_iff]
  constructor
  · rintro ((h | ⟨g, ((h | ⟨k, h⟩) | ⟨k, h⟩)⟩) | ⟨g, ((h | ⟨k, h⟩) | ⟨k, h⟩)⟩)
    · exact h
    · exact .inl (.inr ⟨g, h⟩)
    · omega
    · rw [show x - 32 + 32 = x from by omega] at h; exact .inl (.inl h)
    · exact .inr ⟨g, h⟩
    · rw [show x + 32 - 32 = x from by omega] at h; exact .inl (.inl h)
    · omega
  · exact fun h => .inl (.inl h)
theorem fold_or (p q : Nat → Bool) : eqB (foldK 123 (orB p q)) (orB (foldK 123 p) (foldK 123 q)) = true := by
  refine eqB_true fun x _ => ?_
  rw [Bool.eq_iff_iff, fold_iff]
  unfold orB
  rw [Bool.or_eq_true (foldK 123 p x), fold_iff, fold_iff]
  simp only [Bool.or_eq_true]
  constructor
  · rintro ((h | ⟨g, h⟩) | ⟨g, h⟩) <;> rcases h with h | h
    · exact .inl (.inl (.inl h))
    · exact .inr (.inl (.inl h))
    · exact .inl (.inl (.inr ⟨g, h⟩))
    · exact .inr (.inl (.inr ⟨g, h⟩))
    · exact .inl (.inr ⟨g, h⟩)
    · exact .inr (.inr ⟨g, h⟩)
  · rintro (((h | ⟨g, h⟩) | ⟨g, h⟩) | ((h | ⟨g, h⟩) | ⟨g, h⟩))
    · exact .inl (.inl (.inl h))
    · exact .inl (.inr ⟨g, .inl h⟩)
    · exact .inr ⟨g, .inl h⟩
    · exact .inl (.inl (.inr h))
    · exact .inl (.inr ⟨g, .inr h⟩)
    · exact .inr ⟨g, .inr h⟩
theorem fold_has (p : Nat → Bool) : eqB (andB (foldK 123 p) p) p = true := by
  refine eqB_true fun x _ => ?_
  unfold andB
  rw [Bool.eq_iff_iff, Bool.and_eq_true, fold_iff]
  exact ⟨fun h => h.2, fun h => ⟨.inl (.inl h), h⟩⟩
theorem fold_else (p : Nat → Bool) : eqB (andB (foldK 123 p) (notB lettersB)) (andB p (notB lettersB)) = true := by
  refine eqB_true fun x _ => ?_
  unfold andB notB lettersB orB rngB
  rw [Bool.eq_iff_iff, Bool.and_eq_true, Bool.and_eq_true, fold_iff]
  simp only [Bool.not_eq_true', Bool.or_eq_false_iff, decide_eq_false_iff_not]
  constructor
  · rintro ⟨((h | ⟨g, h⟩) | ⟨g, h⟩), h1, h2⟩
    · exact ⟨h, h1, h2⟩
    · omega
    · omega
  · exact fun h => ⟨.inl (.inl h.1), h.2⟩

set_option maxRecDepth 100000 in
set_option maxHeartbeats 8000000 in
theorem folds_any (p q : Nat → Bool) (w : World) :
    Calls Try.prog 7 #[.agg #[.int .u64 (W (p) 0), .int .u64 (W (p) 1), .int .u64 (W (p) 2), .int .u64 (W (p) 3)], .agg #[.int .u64 (W (q) 0), .int .u64 (W (q) 1), .int .u64 (W (q) 2), .int .u64 (W (q) 3)]] w fun e w' => e = .returned (.bool true) ∧ Below w.heap.size w w' := by
  go_enter Try.func7, Try.ntmps7
  go_wp2_with fail
  have R0 := (Row4.new w p).alloc (.cells (#[.int .u64 (W (q) 0), .int .u64 (W (q) 1), .int .u64 (W (q) 2), .int .u64 (W (q) 3)]) 27)
  have R1 := Row4.new (w.alloc (.cells (#[.int .u64 (W (p) 0), .int .u64 (W (p) 1), .int .u64 (W (p) 2), .int .u64 (W (p) 3)]) 27)) q
  rw [World.size_alloc] at R1
  refine (shown_any _).mono ?_
  rintro e w1 ⟨rfl, hb1⟩
  have X1 : Box2 w1 w.heap.size (w.heap.size + 1) p q := ⟨R0.below hb1 R0.lt, R1.below hb1 R1.lt⟩
  have D1 := bel1 (bel1 hb1)
  obtain ⟨⟨a0, a1, a2, a3⟩, b0, b1, b2, b3⟩ := X1.cells
  clear R0 R1 hb1
  go_wp2_with fail
  refine (fold_any p _).mono ?_
  rintro e w2 ⟨rfl, hb2⟩
  have X2 := X1.below hb2
  have D2 := D1.trans (hb2.mono D1.size)
  have R2 := Row4.new w2 (foldK 123 p)
  have X3 := X2.alloc (.cells (#[.int .u64 (W (foldK 123 p) 0), .int .u64 (W (foldK 123 p) 1), .int .u64 (W (foldK 123 p) 2), .int .u64 (W (foldK 123 p) 3)]) 27)
  have D3 := D2.alloc D2.size (.cells (#[.int .u64 (W (foldK 123 p) 0), .int .u64 (W (foldK 123 p) 1), .int .u64 (W (foldK 123 p) 2), .int .u64 (W (foldK 123 p) 3)]) 27)
  clear a0 a1 a2 a3 b0 b1 b2 b3 X1 D1 hb2 X2 D2
  go_wp2_with fail
  refine (range_any 97 122 _ (by omega) (by omega) (by omega) (by omega)).mono ?_
  rintro e w3 ⟨rfl, hb3⟩
  have X4 := X3.below hb3
  have R3 := R2.below hb3 R2.lt
  have D4 := D3.trans (hb3.mono D3.size)
  clear X3 D3 R2 hb3
  go_wp2_with fail
  refine (range_any 65 90 _ (by omega) (by omega) (by omega) (by omega)).mono ?_
  rintro e w4 ⟨rfl, hb4⟩
  have X5 := X4.below hb4
  have R4 := R3.below hb4 R3.lt
  have D5 := D4.trans (hb4.mono D4.size)
  clear X4 D4 R3 hb4
  go_wp2_with fail
  refine (or2 _ _ _).mono ?_
  rintro e w5 ⟨rfl, hb5⟩
  have X6 := X5.below hb5
  have R5 := R4.below hb5 R4.lt
  have D6 := D5.trans (hb5.mono D5.size)
  have B0 : Box4 (w5.alloc (.cells (#[.int .u64 (W (lettersB) 0), .int .u64 (W (lettersB) 1), .int .u64 (W (lettersB) 2), .int .u64 (W (lettersB) 3)]) 27)) w.heap.size (w.heap.size + 1) w2.heap.size w5.heap.size p q (foldK 123 p) lettersB := ⟨(X6.alloc _).r0, (X6.alloc _).r1, R5.alloc _, Row4.new w5 lettersB⟩
  have D0 := D6.alloc D6.size (.cells (#[.int .u64 (W (lettersB) 0), .int .u64 (W (lettersB) 1), .int .u64 (W (lettersB) 2), .int .u64 (W (lettersB) 3)]) 27)
  clear X5 D5 R4 hb5 X6 R5 D6
  go_wp2
  change Code.wp _ _ _ _ (w5.alloc (.cells (#[.int .u64 (W (lettersB) 0), .int .u64 (W (lettersB) 1), .int .u64 (W (lettersB) 2), .int .u64 (W (lettersB) 3)]) 27))
  generalize w5.alloc (.cells (#[.int .u64 (W (lettersB) 0), .int .u64 (W (lettersB) 1), .int .u64 (W (lettersB) 2), .int .u64 (W (lettersB) 3)]) 27) = v0 at *
  generalize w5.heap.size = gl at *
  generalize w2.heap.size = gf at *
  obtain ⟨⟨a00, a10, a20, a30⟩, ⟨b00, b10, b20, b30⟩, ⟨c00, c10, c20, c30⟩, d00, d10, d20, d30⟩ := B0.cells
  have hg27 := guard27
  have q1 := set_eql (foldK 123 (foldK 123 p)) (foldK 123 p)
  have q2 := set_eql (foldK 123 (orB p q)) (orB (foldK 123 p) (foldK 123 q))
  have q3 := set_eql (andB (foldK 123 p) p) p
  have q4 := set_eql (andB (foldK 123 p) (notB lettersB)) (andB p (notB lettersB))
  rw [fold_twice] at q1
  rw [fold_or] at q2
  rw [fold_has] at q3
  rw [fold_else] at q4
  go_region_held (fun v => (v.cell? ⟨w.heap.size, 0, none⟩ = some (.int .u64 (W p 0)) ∧ v.cell? ⟨w.heap.size, 1, none⟩ = some (.int .u64 (W p 1)) ∧ v.cell? ⟨w.heap.size, 2, none⟩ = some (.int .u64 (W p 2)) ∧ v.cell? ⟨w.heap.size, 3, none⟩ = some (.int .u64 (W p 3))) ∧
      (v.cell? ⟨w.heap.size + 1, 0, none⟩ = some (.int .u64 (W q 0)) ∧ v.cell? ⟨w.heap.size + 1, 1, none⟩ = some (.int .u64 (W q 1)) ∧ v.cell? ⟨w.heap.size + 1, 2, none⟩ = some (.int .u64 (W q 2)) ∧ v.cell? ⟨w.heap.size + 1, 3, none⟩ = some (.int .u64 (W q 3))) ∧
      (v.cell? ⟨gf, 0, none⟩ = some (.int .u64 (W (foldK 123 p) 0)) ∧ v.cell? ⟨gf, 1, none⟩ = some (.int .u64 (W (foldK 123 p) 1)) ∧ v.cell? ⟨gf, 2, none⟩ = some (.int .u64 (W (foldK 123 p) 2)) ∧ v.cell? ⟨gf, 3, none⟩ = some (.int .u64 (W (foldK 123 p) 3))) ∧
      v.cell? ⟨gl, 0, none⟩ = some (.int .u64 (W lettersB 0)) ∧ v.cell? ⟨gl, 1, none⟩ = some (.int .u64 (W lettersB 1)) ∧ v.cell? ⟨gl, 2, none⟩ = some (.int .u64 (W lettersB 2)) ∧ v.cell? ⟨gl, 3, none⟩ = some (.int .u64 (W lettersB 3)))
    (go_keep)
    (first
      | (have Z := B9; clear Z; go_at_call 18; (with_reducible refine (and2 p (notB lettersB) _).mono ?_); rintro e w10 ⟨rfl, hb10⟩; have B10 := B9.below hb10; have D10 := D9.trans (hb10.mono D9.size); obtain ⟨⟨a010, a110, a210, a310⟩, ⟨b010, b110, b210, b310⟩, ⟨c010, c110, c210, c310⟩, d010, d110, d210, d310⟩ := (B10.cells))
      | (have Z := B8; clear Z; go_at_call 20; (with_reducible refine (not_any lettersB _).mono ?_); rintro e w9 ⟨rfl, hb9⟩; have B9 := B8.below hb9; have D9 := D8.trans (hb9.mono D8.size); obtain ⟨⟨a09, a19, a29, a39⟩, ⟨b09, b19, b29, b39⟩, ⟨c09, c19, c29, c39⟩, d09, d19, d29, d39⟩ := (B9.cells))
      | (have Z := B7; clear Z; go_at_call 18; (with_reducible refine (and2 (foldK 123 p) (notB lettersB) _).mono ?_); rintro e w8 ⟨rfl, hb8⟩; have B8 := B7.below hb8; have D8 := D7.trans (hb8.mono D7.size); obtain ⟨⟨a08, a18, a28, a38⟩, ⟨b08, b18, b28, b38⟩, ⟨c08, c18, c28, c38⟩, d08, d18, d28, d38⟩ := (B8.cells))
      | (have Z := B6; clear Z; go_at_call 20; (with_reducible refine (not_any lettersB _).mono ?_); rintro e w7 ⟨rfl, hb7⟩; have B7 := B6.below hb7; have D7 := D6.trans (hb7.mono D6.size); obtain ⟨⟨a07, a17, a27, a37⟩, ⟨b07, b17, b27, b37⟩, ⟨c07, c17, c27, c37⟩, d07, d17, d27, d37⟩ := (B7.cells))
      | (have Z := B5; clear Z; go_at_call 18; (with_reducible refine (and2 (foldK 123 p) p _).mono ?_); rintro e w6 ⟨rfl, hb6⟩; have B6 := B5.below hb6; have D6 := D5.trans (hb6.mono D5.size); obtain ⟨⟨a06, a16, a26, a36⟩, ⟨b06, b16, b26, b36⟩, ⟨c06, c16, c26, c36⟩, d06, d16, d26, d36⟩ := (B6.cells))
      | (have Z := B4; clear Z; go_at_call 16; (with_reducible refine (or2 (foldK 123 p) (foldK 123 q) _).mono ?_); rintro e w5 ⟨rfl, hb5⟩; have B5 := B4.below hb5; have D5 := D4.trans (hb5.mono D4.size); obtain ⟨⟨a05, a15, a25, a35⟩, ⟨b05, b15, b25, b35⟩, ⟨c05, c15, c25, c35⟩, d05, d15, d25, d35⟩ := (B5.cells))
      | (have Z := B3; clear Z; go_at_call 29; (with_reducible refine (fold_any q _).mono ?_); rintro e w4 ⟨rfl, hb4⟩; have B4 := B3.below hb4; have D4 := D3.trans (hb4.mono D3.size); obtain ⟨⟨a04, a14, a24, a34⟩, ⟨b04, b14, b24, b34⟩, ⟨c04, c14, c24, c34⟩, d04, d14, d24, d34⟩ := (B4.cells))
      | (have Z := B2; clear Z; go_at_call 29; (with_reducible refine (fold_any (orB p q) _).mono ?_); rintro e w3 ⟨rfl, hb3⟩; have B3 := B2.below hb3; have D3 := D2.trans (hb3.mono D2.size); obtain ⟨⟨a03, a13, a23, a33⟩, ⟨b03, b13, b23, b33⟩, ⟨c03, c13, c23, c33⟩, d03, d13, d23, d33⟩ := (B3.cells))
      | (have Z := B1; clear Z; go_at_call 16; (with_reducible refine (or2 p q _).mono ?_); rintro e w2 ⟨rfl, hb2⟩; have B2 := B1.below hb2; have D2 := D1.trans (hb2.mono D1.size); obtain ⟨⟨a02, a12, a22, a32⟩, ⟨b02, b12, b22, b32⟩, ⟨c02, c12, c22, c32⟩, d02, d12, d22, d32⟩ := (B2.cells))
      | (have Z := B0; clear Z; go_at_call 29; (with_reducible refine (fold_any (foldK 123 p) _).mono ?_); rintro e w1 ⟨rfl, hb1⟩; have B1 := B0.drew.below hb1; have D1 := D0.drew.trans (hb1.mono D0.size); obtain ⟨⟨a01, a11, a21, a31⟩, ⟨b01, b11, b21, b31⟩, ⟨c01, c11, c21, c31⟩, d01, d11, d21, d31⟩ := (B1.cells)))
  all_goals go_wp2
  all_goals go_ret
  all_goals exact ⟨rfl, D10⟩

end Go.Proofs.Ytbheccbbkolieaa
