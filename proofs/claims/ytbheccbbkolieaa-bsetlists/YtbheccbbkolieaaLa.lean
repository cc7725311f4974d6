/- The walk of BsetLists: the bytes of a set, its ranges, and those of both cases. -/
import Derived.Test.YtbheccbbkolieaaWk
namespace Go.Proofs.Ytbheccbbkolieaa
open Go.RowKit

set_option maxRecDepth 100000 in
set_option maxHeartbeats 4000000 in
theorem lists_any (p : Nat → Bool) (w : World) :
    Calls Try.prog 4 #[.agg #[.int .u64 (W (p) 0), .int .u64 (W (p) 1), .int .u64 (W (p) 2), .int .u64 (W (p) 3)]] w fun e w' => e = .returned (.bool true) ∧ Below w.heap.size w w' := by
  have hbl : (spansL (lstB p 256)).length ≤ 1000000 := by
    have h1 := spans_len (lstB p 256)
    have h2 := lst_len p 256
    omega
  go_enter Try.func4, Try.ntmps4
  go_wp2
  have Q0 := Row4.new w p
  have hbw0 := (Below.refl w.heap.size w).alloc (Nat.le_refl _) (.cells (#[.int .u64 (W (p) 0), .int .u64 (W (p) 1), .int .u64 (W (p) 2), .int .u64 (W (p) 3)]) 27)
  generalize w.alloc (.cells (#[.int .u64 (W (p) 0), .int .u64 (W (p) 1), .int .u64 (W (p) 2), .int .u64 (W (p) 3)]) 27) = w0 at *
  obtain ⟨r00, r10, r20, r30⟩ := Q0.cells
  have hg27 := guard27
  have heq := set_eql (foldK 123 p) (foldK 123 p)
  rw [eqB_refl] at heq
  have hz0 := Q0.lt
  go_region_held (fun v => v.cell? ⟨w.heap.size, 0, none⟩ = some (.int .u64 (W p 0)) ∧ v.cell? ⟨w.heap.size, 1, none⟩ = some (.int .u64 (W p 1)) ∧ v.cell? ⟨w.heap.size, 2, none⟩ = some (.int .u64 (W p 2)) ∧ v.cell? ⟨w.heap.size, 3, none⟩ = some (.int .u64 (W p 3)))
    (go_keep)
    (first
      | (go_at_call 12; refine (shown_any _).mono ?_; rintro e w1 ⟨rfl, hb1⟩; have Q1 := Q0.drew.below hb1 Q0.lt; have hbw1 := hbw0.drew.trans (hb1.mono hbw0.size); obtain ⟨r01, r11, r21, r31⟩ := Q1.cells)
      | (go_at_call 24; refine (list_any p _).mono ?_; rintro e w2 ⟨v2, rfl, hown2, hb2⟩; have Q2 := Q1.below hb2 Q1.lt; have hbw2 := hbw1.trans (hb2.mono hbw1.size); obtain ⟨r02, r12, r22, r32⟩ := Q2.cells; obtain ⟨A2, c2, rfl, hB2⟩ := Bts.of_own hown2 (lst_byte p); have hcv2 := str_bytes A2 c2 _ _ hB2)
      | (go_at_call 25; refine (rlist_any p _).mono ?_; rintro e w3 ⟨v3, rfl, hown3, hb3⟩; have Q3 := Q2.below hb3 Q2.lt; have hbw3 := hbw2.trans (hb3.mono hbw2.size); obtain ⟨r03, r13, r23, r33⟩ := Q3.cells; obtain ⟨A3, c3, rfl, hB3⟩ := Bts.of_own hown3 (lst_byte p); have hcv3 := str_bytes A3 c3 _ _ hB3; have hcv2' := str_bytes A2 c2 _ w3 ((hB2.below hb3).more hb3.size))
      | (go_at_call 27; refine (spans_any p _).mono ?_; rintro e w4 ⟨v4, rfl, hown4, hb4⟩; have Q4 := Q3.below hb4 Q3.lt; have hbw4 := hbw3.trans (hb4.mono hbw3.size); obtain ⟨r04, r14, r24, r34⟩ := Q4.cells; obtain ⟨A4, c4, rfl, hP4⟩ := Prs.of_own hown4)
      | (go_at_call 28; refine (rspans_any p _).mono ?_; rintro e w5 ⟨v5, rfl, hown5, hb5⟩; have Q5 := Q4.below hb5 Q4.lt; have hbw5 := hbw4.trans (hb5.mono hbw4.size); obtain ⟨r05, r15, r25, r35⟩ := Q5.cells; obtain ⟨A5, c5, rfl, hP5⟩ := Prs.of_own hown5; have hP4' := (hP4.below hb5).more hb5.size)
      | (go_at_call 26; refine (same_any A4 A5 c4 c5 _ _ hP4' hP5 hbl).mono ?_; rintro e w6 ⟨rfl, hb6⟩; have Q6 := Q5.below hb6 Q5.lt; have hbw6 := hbw5.trans (hb6.mono hbw5.size); obtain ⟨r06, r16, r26, r36⟩ := Q6.cells)
      | (go_at_call 29; refine (fold_any p _).mono ?_; rintro e w7 ⟨rfl, hb7⟩; have Q7 := Q6.below hb7 Q6.lt; have hbw7 := hbw6.trans (hb7.mono hbw6.size); obtain ⟨r07, r17, r27, r37⟩ := Q7.cells)
      | (go_at_call 30; refine (rfold_any p _).mono ?_; rintro e w8 ⟨rfl, hb8⟩; have Q8 := Q7.below hb8 Q7.lt; have hbw8 := hbw7.trans (hb8.mono hbw7.size); obtain ⟨r08, r18, r28, r38⟩ := Q8.cells))
  all_goals go_wp2
  all_goals go_ret
  all_goals exact ⟨rfl, hbw8⟩

end Go.Proofs.Ytbheccbbkolieaa
