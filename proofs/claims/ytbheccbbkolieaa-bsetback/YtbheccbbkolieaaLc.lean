/- The walk of BsetBack: what Spans tells, by Range and Or, is the set, and what List tells, by Of; spans stand apart. -/
import Derived.Test.YtbheccbbkolieaaBx
import Derived.Test.YtbheccbbkolieaaSq
namespace Go.Proofs.Ytbheccbbkolieaa
open Go.RowKit

theorem rngs_snoc (o : List (Int × Int)) (k : Nat) (h : k < o.length) : rngs (o.take (k + 1)) = rngs (o.take k) ++ [rngB (o.getD k (0, 0)).1 ((o.getD k (0, 0)).2 + 1)] := by
  unfold rngs
  rw [List.take_succ_eq_append_getElem h, List.getD_eq_getElem?_getD, List.getElem?_eq_getElem h, List.map_append]; rfl
theorem Sts.drew {w : World} {B : Nat} {A : Option Addr} {ps : List (Nat → Bool)} (h : Sts w B A ps) : Sts w.drew B A ps := h.keep fun _ _ => rfl

set_option maxRecDepth 100000 in
set_option maxHeartbeats 8000000 in
theorem back_any (p : Nat → Bool) (w : World) :
    Calls Try.prog 5 #[.agg #[.int .u64 (W (p) 0), .int .u64 (W (p) 1), .int .u64 (W (p) 2), .int .u64 (W (p) 3)]] w fun e w' => e = .returned (.bool true) ∧ Below w.heap.size w w' := by
  obtain ⟨i0, hi0, hz0, hz1, hz2⟩ := info_parts set_info
  go_enter Try.func5, Try.ntmps5
  go_wp2_with fail
  have R0 := Row4.new w p
  refine (shown_any _).mono ?_
  rintro e w1 ⟨rfl, hb1⟩
  have R1 := R0.below hb1 R0.lt
  have D1 := bel1 hb1
  obtain ⟨a0, a1, a2, a3⟩ := R1.cells
  clear R0 hb1
  go_wp2_with fail
  refine (spans_any p _).mono ?_
  rintro e w2 ⟨v2, rfl, hown2, hb2⟩
  have R2 := R1.below hb2 R1.lt
  have D2 := D1.trans (hb2.mono D1.size)
  obtain ⟨A2, c2, rfl, hP⟩ := Prs.of_own hown2
  have hAt := hidd (span_at p)
  have hNx := hidd (span_next p)
  have hRg := hidd (rngs_has p)
  have hln : (spansL (lstB p 256)).length ≤ 256 := by
    have h1 := spans_len (lstB p 256)
    have h2 := lst_len p 256
    omega
  generalize spansL (lstB p 256) = o at *
  clear a0 a1 a2 a3 hb2 hown2 R1 D1
  go_wp2
  go_loopw [4, 5, 12] (fun l t i wr => ∃ (k : Nat) (la : Int), k ≤ o.length ∧ i = .int .i64 k ∧ t = .int .i64 la ∧ -2 ≤ la ∧ la ≤ 255 ∧ (k < o.length → la + 1 < (o.getD k (0, 0)).1) ∧ wr.ownsRow w2.heap.size 27 4 l k (sws (rngs (o.take k))) ∧ Below w2.heap.size w2 wr) (fun _ _ i _ => o.length - (intOf i).toNat)
  case atStart =>
    refine ⟨0, -2, Nat.zero_le _, rfl, rfl, by omega, by omega, fun h => ?_, World.ownsRow_nil _ _ _ _, Below.refl _ _⟩
    have := hAt.out 0 h
    omega
  case round =>
    obtain ⟨k, la, hk0, rfl, rfl, hla0, hla1, hla2, hown, hb⟩ := hrel
    by_cases hlt : k < o.length
    · have hla3 := hla2 hlt
      have hat := hAt.out k hlt
      have HS := hidd (rngs_snoc o k hlt)
      have HN : Hid (k + 1 < o.length → (o.getD k (0, 0)).2 + 1 < (o.getD (k + 1) (0, 0)).1) := fun h => hNx.out k h
      obtain ⟨g, off, rfl, hg, x0, x1⟩ := (hP.below hb).at_ hlt
      clear hla2
      generalize (o.getD k (0, 0)).1 = u at *
      generalize (o.getD k (0, 0)).2 = v at *
      obtain ⟨hu0, huv, hv0⟩ := hat
      have ht1 : ¬ u ≤ la + 1 := by omega
      have ht2 : ¬ v < u := by omega
      have hsz := hb.size
      have hb4 := hb.alloc hsz (.cells #[.int .u8 u, .int .u8 v] 42)
      have hown4 := hown.alloc (.cells #[.int .u8 u, .int .u8 v] 42)
      go_wp2_with fail
      refine (range_any u v _ hu0 (by omega) (by omega) hv0).mono ?_
      rintro e w3 ⟨rfl, hb3⟩
      have hown3 := own_below hown4 hb3 (Nat.le_refl _)
      have hb5 := hb4.trans (hb3.mono hb4.size)
      have hsz5 := hb5.size
      clear hb3 hb4 hown4 hown x0 x1
      go_wp2_with (at_builtin; refine wpList_append_own _ rfl (.tmp 32) (.tmp 38) 23 rfl w2.heap.size 27 i0 (.agg #[.int .u64 0, .int .u64 0, .int .u64 0, .int .u64 0]) 4 32 Try.underlying23 hi0 hz0 hz1 hz2 rfl (by omega) _ _ _ rfl (hown3.alloc _) ⟨w3.heap.size, 0, none⟩ 1 1 (sw (rngB u (v + 1))) rfl rfl (cells_new _ _ _ _ rfl) (by simp [Value.oneCell', sw]) (by simp only [maxLen]; omega) (by omega) (by simp; omega) ?_; intro v4 w4 hown4 hg4 _)
      change (w3.alloc _).grownBy w4 u4.ownBlock at hg4
      have hlt2 := hown3.lt
      refine ⟨⟨k + 1, v, by omega, rfl, rfl, by omega, by omega, fun h => ?_, ?_, (hb5.alloc hsz5 _).grown hg4 (by simp; omega) (fun j e => (hlt2 _ e).1)⟩, by simp [intOf]; omega⟩
      · exact HN.out h
      · rw [HS.out, ← sws_snoc]; exact hown4
    · have hk : k = o.length := by omega
      rw [hk, List.take_of_length_le (Nat.le_refl _)] at hown
      have hown' : wr.ownsRow w2.heap.size 27 4 u4 (rngs o).length (sws (rngs o)) := by
        have e : (rngs o).length = o.length := by simp [rngs]
        rw [e]; exact hown
      obtain ⟨A4, c4, hu4, hS4⟩ := Sts.of_own hown'
      have B0 : Box1 wr w.heap.size p := ⟨R2.below hb R2.lt⟩
      have D0 := D2.trans (hb.mono D2.size)
      subst hu4
      have hll : (rngs o).length ≤ 1000000 := by simp [rngs]; omega
      have q1 := set_eql (anyB (rngs o)) p
      have q2 := set_eql (inB (lstB p 256)) p
      rw [eqB_true hRg.out] at q1
      rw [eqB_true (lst_has p)] at q2
      have hg27 := guard27
      have hl2 : (lstB p 256).length ≤ 1000000 := by have := lst_len p 256; omega
      clear hown hown' hk hla2
      generalize rngs o = ps at *
      go_wp2
      obtain ⟨a00, a10, a20, a30⟩ := B0.cells
      go_region_held (fun v => v.cell? ⟨w.heap.size, 0, none⟩ = some (.int .u64 (W p 0)) ∧ v.cell? ⟨w.heap.size, 1, none⟩ = some (.int .u64 (W p 1)) ∧ v.cell? ⟨w.heap.size, 2, none⟩ = some (.int .u64 (W p 2)) ∧ v.cell? ⟨w.heap.size, 3, none⟩ = some (.int .u64 (W p 3)))
        (go_keep)
        (first
          | (have Z := B2; clear Z; go_at_call 13; (with_reducible refine (of_any A5 c5 (lstB p 256) _ hB5 hl2).mono ?_); rintro e w3 ⟨rfl, hb3⟩; have B3 := B2.below hb3; have D3 := D2.trans (hb3.mono D2.size); obtain ⟨a03, a13, a23, a33⟩ := (B3.cells))
          | (have Z := B1; clear Z; go_at_call 24; (with_reducible refine (list_any p _).mono ?_); rintro e w2 ⟨v2, rfl, hown2, hb2⟩; have B2 := B1.below hb2; have D2 := D1.trans (hb2.mono D1.size); obtain ⟨a02, a12, a22, a32⟩ := (B2.cells); obtain ⟨A5, c5, rfl, hB5⟩ := Bts.of_own hown2 (lst_byte p))
          | (have Z := B0; clear Z; go_at_call 16; (with_reducible refine (or_any A4 c4 ps _ hS4.drew hll).mono ?_); rintro e w1 ⟨rfl, hb1⟩; have B1 := B0.drew.below hb1; have D1 := D0.drew.trans (hb1.mono D0.size); obtain ⟨a01, a11, a21, a31⟩ := (B1.cells)))
      all_goals go_wp2
      all_goals go_ret
      all_goals exact ⟨rfl, D3⟩

end Go.Proofs.Ytbheccbbkolieaa
