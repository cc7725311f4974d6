/- The walk of BsetTells: sets of bytes, of a range, of some sets together, what all have, and what a set is not, are the reference's. -/
import Derived.Test.YtbheccbbkolieaaBx
namespace Go.Proofs.Ytbheccbbkolieaa
open Go.RowKit

theorem Bts.take {w : World} {B : Nat} {A : Option Addr} {xs : List Int} (h : Bts w B A xs) (n : Nat) : Bts w B A (xs.take n) := by
  refine ⟨fun x hx => h.1 x (List.mem_of_mem_take hx), fun hne => ?_⟩
  obtain ⟨g, off, e, hg, hc⟩ := h.2 (fun e => hne (by subst e; simp))
  refine ⟨g, off, e, hg, fun i hi => ?_⟩
  rw [List.length_take] at hi
  rw [hc i (by omega), List.getD_eq_getElem?_getD, List.getD_eq_getElem?_getD, List.getElem?_take, if_pos (by omega)]
theorem Sts.take {w : World} {B : Nat} {A : Option Addr} {ps : List (Nat → Bool)} (h : Sts w B A ps) (n : Nat) : Sts w B A (ps.take n) := by
  intro hne
  obtain ⟨g, off, e, hg, hc⟩ := h (fun e => hne (by subst e; simp))
  refine ⟨g, off, e, hg, fun i hi k hk => ?_⟩
  rw [List.length_take] at hi
  rw [hc i (by omega) k hk, List.getD_eq_getElem?_getD, List.getD_eq_getElem?_getD, List.getElem?_take, if_pos (by omega)]

/-- The calls at a slice whose length is written otherwise. -/
theorem of_len {A : Option Addr} {c n : Nat} {xs : List Int} {w : World} (hx : Bts w w.heap.size A xs) (hl : xs.length ≤ 1000000) (e : Hid (xs.length = n)) :
    Calls Try.prog 13 #[.slice A n c] w fun e w' => e = .returned (.agg #[.int .u64 (W (inB xs) 0), .int .u64 (W (inB xs) 1), .int .u64 (W (inB xs) 2), .int .u64 (W (inB xs) 3)]) ∧ Below w.heap.size w w' := by have e := e.out; subst e; exact of_any A c xs w hx hl
theorem rof_len {A : Option Addr} {c n : Nat} {xs : List Int} {w : World} (hx : Bts w w.heap.size A xs) (hl : xs.length ≤ 1000000) (e : Hid (xs.length = n)) :
    Calls Try.prog 11 #[.slice A n c] w fun e w' => e = .returned (.agg #[.int .u64 (W (inB xs) 0), .int .u64 (W (inB xs) 1), .int .u64 (W (inB xs) 2), .int .u64 (W (inB xs) 3)]) ∧ Below w.heap.size w w' := by have e := e.out; subst e; exact rof_any A c xs w hx hl
theorem or_len {A : Option Addr} {c n : Nat} {ps : List (Nat → Bool)} {w : World} (hx : Sts w w.heap.size A ps) (hl : ps.length ≤ 1000000) (e : Hid (ps.length = n)) :
    Calls Try.prog 16 #[.slice A n c] w fun e w' => e = .returned (.agg #[.int .u64 (W (anyB ps) 0), .int .u64 (W (anyB ps) 1), .int .u64 (W (anyB ps) 2), .int .u64 (W (anyB ps) 3)]) ∧ Below w.heap.size w w' := by have e := e.out; subst e; exact or_any A c ps w hx hl
theorem ror_len {A : Option Addr} {c n : Nat} {ps : List (Nat → Bool)} {w : World} (hx : Sts w w.heap.size A ps) (hl : ps.length ≤ 1000000) (e : Hid (ps.length = n)) :
    Calls Try.prog 17 #[.slice A n c] w fun e w' => e = .returned (.agg #[.int .u64 (W (anyB ps) 0), .int .u64 (W (anyB ps) 1), .int .u64 (W (anyB ps) 2), .int .u64 (W (anyB ps) 3)]) ∧ Below w.heap.size w w' := by have e := e.out; subst e; exact ror_any A c ps w hx hl
theorem and_len {A : Option Addr} {c n : Nat} {ps : List (Nat → Bool)} {w : World} (hx : Sts w w.heap.size A ps) (hl : ps.length ≤ 1000000) (e : Hid (ps.length = n)) :
    Calls Try.prog 18 #[.slice A n c] w fun e w' => e = .returned (.agg #[.int .u64 (W (everyB ps) 0), .int .u64 (W (everyB ps) 1), .int .u64 (W (everyB ps) 2), .int .u64 (W (everyB ps) 3)]) ∧ Below w.heap.size w w' := by have e := e.out; subst e; exact and_any A c ps w hx hl
theorem rand_len {A : Option Addr} {c n : Nat} {ps : List (Nat → Bool)} {w : World} (hx : Sts w w.heap.size A ps) (hl : ps.length ≤ 1000000) (e : Hid (ps.length = n)) :
    Calls Try.prog 19 #[.slice A n c] w fun e w' => e = .returned (.agg #[.int .u64 (W (everyB ps) 0), .int .u64 (W (everyB ps) 1), .int .u64 (W (everyB ps) 2), .int .u64 (W (everyB ps) 3)]) ∧ Below w.heap.size w w' := by have e := e.out; subst e; exact rand_any A c ps w hx hl

set_option maxRecDepth 100000 in
set_option maxHeartbeats 8000000 in
theorem tells_core (A X : Option Addr) (c d m n : Nat) (b : List Int) (k : Nat) (z : List (Nat → Bool)) (lo hi : Int) (w : World) (hB : Bts w w.heap.size A b) (hY : Sts w w.heap.size X z)
    (hm : (m ≤ 300 ∧ n = m) ∨ (300 < m ∧ n = 300)) (EB : Hid (b.length = n)) (EY : Hid (z.length = min k 20)) (hl : b.length ≤ 1000000) (hy : z.length ≤ 1000000)
    (lc : m ≤ c) (mc : m ≤ maxLen) (ld : k ≤ d) (md : k ≤ maxLen) (l0 : 0 ≤ lo) (l1 : lo ≤ 255) (h0 : 0 ≤ hi) (h1 : hi ≤ 255) :
    Calls Try.prog 3 #[.slice A m c, .int .u8 lo, .int .u8 hi, .slice X k d] w fun e w' => e = .returned (.bool true) ∧ Below w.heap.size w w' := by
  unfold maxLen at mc
  have hg27 := guard27
  have q1 := set_eql (inB b) (inB b)
  have q2 := set_eql (rngB lo (hi + 1)) (rngB lo (hi + 1))
  have q3 := set_eql (anyB z) (anyB z)
  have q4 := set_eql (everyB z) (everyB z)
  have q5 := set_eql (notB (inB b)) (notB (inB b))
  rw [eqB_refl] at q1 q2 q3 q4 q5
  rcases hm with ⟨hm, rfl⟩ | ⟨hm, rfl⟩
  all_goals
    go_enter Try.func3, Try.ntmps3
    go_wp2
    go_quiet ((go_at_call 10; exact Calls.quiet_of_same ((few_any X k d _ md ld).mono fun _ _ h => ⟨h.1, h.2.symm⟩)))
    go_wp2_with fail
    have hBq : Bts (w.drewN nq) (w.drewN nq).heap.size A b := hB.keep fun _ _ => rfl
    have DD := bel_drewN (Below.refl w.heap.size w) nq
    refine (rof_len hBq hl EB).mono ?_
    rintro e w1 ⟨rfl, hb1⟩
    have D1 := DD.trans hb1
    have B0 : Box1 (w1.alloc (.cells (#[.int .u64 (W (inB b) 0), .int .u64 (W (inB b) 1), .int .u64 (W (inB b) 2), .int .u64 (W (inB b) 3)]) 27)) w1.heap.size (inB b) := ⟨Row4.new w1 (inB b)⟩
    have D0 := D1.alloc D1.size (.cells (#[.int .u64 (W (inB b) 0), .int .u64 (W (inB b) 1), .int .u64 (W (inB b) 2), .int .u64 (W (inB b) 3)]) 27)
    clear hBq DD hb1 D1
    go_wp2
    generalize w1.alloc (.cells (#[.int .u64 (W (inB b) 0), .int .u64 (W (inB b) 1), .int .u64 (W (inB b) 2), .int .u64 (W (inB b) 3)]) 27) = v0 at *
    generalize w1.heap.size = gs at *
    obtain ⟨a00, a10, a20, a30⟩ := B0.cells
    go_region_held (fun v => v.cell? ⟨gs, 0, none⟩ = some (.int .u64 (W (inB b) 0)) ∧ v.cell? ⟨gs, 1, none⟩ = some (.int .u64 (W (inB b) 1)) ∧ v.cell? ⟨gs, 2, none⟩ = some (.int .u64 (W (inB b) 2)) ∧ v.cell? ⟨gs, 3, none⟩ = some (.int .u64 (W (inB b) 3)))
      (go_keep)
      (first
        | (have Z := B11; clear Z; go_at_call 23; (with_reducible refine (rhas_any (inB b) lo _ l0 l1).mono ?_); rintro e w12 ⟨rfl, hb12⟩; have B12 := B11.below hb12; have D12 := D11.trans (hb12.mono D11.size); obtain ⟨a012, a112, a212, a312⟩ := (B12.cells))
        | (have Z := B10; clear Z; go_at_call 22; (with_reducible refine (has_any (inB b) lo _ l0 l1).mono ?_); rintro e w11 ⟨rfl, hb11⟩; have B11 := B10.below hb11; have D11 := D10.trans (hb11.mono D10.size); obtain ⟨a011, a111, a211, a311⟩ := (B11.cells))
        | (have Z := B9; clear Z; go_at_call 21; (with_reducible refine (rnot_any (inB b) _).mono ?_); rintro e w10 ⟨rfl, hb10⟩; have B10 := B9.below hb10; have D10 := D9.trans (hb10.mono D9.size); obtain ⟨a010, a110, a210, a310⟩ := (B10.cells))
        | (have Z := B8; clear Z; go_at_call 20; (with_reducible refine (not_any (inB b) _).mono ?_); rintro e w9 ⟨rfl, hb9⟩; have B9 := B8.below hb9; have D9 := D8.trans (hb9.mono D8.size); obtain ⟨a09, a19, a29, a39⟩ := (B9.cells))
        | (have Z := B7; clear Z; go_at_call 19; (with_reducible refine (rand_len ((hY.below D7).more D7.size) hy EY).mono ?_); rintro e w8 ⟨rfl, hb8⟩; have B8 := B7.below hb8; have D8 := D7.trans (hb8.mono D7.size); obtain ⟨a08, a18, a28, a38⟩ := (B8.cells))
        | (have Z := B6; clear Z; go_at_call 18; (with_reducible refine (and_len ((hY.below D6).more D6.size) hy EY).mono ?_); rintro e w7 ⟨rfl, hb7⟩; have B7 := B6.below hb7; have D7 := D6.trans (hb7.mono D6.size); obtain ⟨a07, a17, a27, a37⟩ := (B7.cells))
        | (have Z := B5; clear Z; go_at_call 17; (with_reducible refine (ror_len ((hY.below D5).more D5.size) hy EY).mono ?_); rintro e w6 ⟨rfl, hb6⟩; have B6 := B5.below hb6; have D6 := D5.trans (hb6.mono D5.size); obtain ⟨a06, a16, a26, a36⟩ := (B6.cells))
        | (have Z := B4; clear Z; go_at_call 16; (with_reducible refine (or_len ((hY.below D4).more D4.size) hy EY).mono ?_); rintro e w5 ⟨rfl, hb5⟩; have B5 := B4.below hb5; have D5 := D4.trans (hb5.mono D4.size); obtain ⟨a05, a15, a25, a35⟩ := (B5.cells))
        | (have Z := B3; clear Z; go_at_call 15; (with_reducible refine (rrange_any lo hi _ l0 l1 h0 h1).mono ?_); rintro e w4 ⟨rfl, hb4⟩; have B4 := B3.below hb4; have D4 := D3.trans (hb4.mono D3.size); obtain ⟨a04, a14, a24, a34⟩ := (B4.cells))
        | (have Z := B2; clear Z; go_at_call 14; (with_reducible refine (range_any lo hi _ l0 l1 h0 h1).mono ?_); rintro e w3 ⟨rfl, hb3⟩; have B3 := B2.below hb3; have D3 := D2.trans (hb3.mono D2.size); obtain ⟨a03, a13, a23, a33⟩ := (B3.cells))
        | (have Z := B1; clear Z; go_at_call 13; (with_reducible refine (of_len ((hB.below D1).more D1.size) hl EB).mono ?_); rintro e w2 ⟨rfl, hb2⟩; have B2 := B1.below hb2; have D2 := D1.trans (hb2.mono D1.size); obtain ⟨a02, a12, a22, a32⟩ := (B2.cells))
        | (have Z := B0; clear Z; go_at_call 12; (with_reducible refine (shown_any _).mono ?_); rintro e w1 ⟨rfl, hb1⟩; have B1 := B0.drew.below hb1; have D1 := D0.drew.trans (hb1.mono D0.size); obtain ⟨a01, a11, a21, a31⟩ := (B1.cells)))
    all_goals go_wp2
    all_goals go_ret
    all_goals exact ⟨rfl, D12⟩

theorem tells_any (A X : Option Addr) (c d : Nat) (l : List Int) (y : List (Nat → Bool)) (lo hi : Int) (w : World) (hB : Bts w w.heap.size A l) (hY : Sts w w.heap.size X y)
    (lc : l.length ≤ c) (mc : c ≤ maxLen) (ld : y.length ≤ d) (md : d ≤ maxLen) (l0 : 0 ≤ lo) (l1 : lo ≤ 255) (h0 : 0 ≤ hi) (h1 : hi ≤ 255) :
    Calls Try.prog 3 #[.slice A l.length c, .int .u8 lo, .int .u8 hi, .slice X y.length d] w fun e w' => e = .returned (.bool true) ∧ Below w.heap.size w w' := by
  have eB : (l.take 300).length = min l.length 300 := by rw [List.length_take]; omega
  have eY : (y.take 20).length = min y.length 20 := by rw [List.length_take]; omega
  exact tells_core A X c d l.length (min l.length 300) (l.take 300) y.length (y.take 20) lo hi w (hB.take 300) (hY.take 20) (by omega) eB eY (by omega) (by omega) lc (by omega) ld (by omega) l0 l1 h0 h1

end Go.Proofs.Ytbheccbbkolieaa
