/- Range and Of, of bset and of its reference. -/
import Derived.Test.YtghjkbjpdjlddaaDoorWa
import Derived.StillTailTactics
namespace Go.Proofs.YtghjkbjpdjlddaaDoor
open Go.RowKit
set_option maxRecDepth 100000

theorem u8_quo (k : Int) (h0 : 0 ≤ k) (h1 : k ≤ 255) : IntKind.u8.wrap (k.tdiv 64) = k / 64 := by
  rw [Int.tdiv_eq_ediv_of_nonneg h0, IntKind.wrap_u8']
  omega

set_option maxHeartbeats 1000000 in
theorem range_any (lo hi : Int) (w : World) (l0 : 0 ≤ lo) (l1 : lo ≤ 255) (h0 : 0 ≤ hi) (h1 : hi ≤ 255) :
    Calls Tryd.prog 121 #[.int .u8 lo, .int .u8 hi] w fun e w' => e = .returned (.agg #[.int .u64 (W (rngB lo (hi + 1)) 0), .int .u64 (W (rngB lo (hi + 1)) 1), .int .u64 (W (rngB lo (hi + 1)) 2), .int .u64 (W (rngB lo (hi + 1)) 3)]) ∧ Below w.heap.size w w' := by
  go_enter Tryd.func121, Tryd.ntmps121
  go_wp2
  go_loopw [6] (fun i wr => ∃ k : Int, lo ≤ k ∧ (k ≤ hi + 1 ∨ k = lo) ∧ i = .int .i64 k ∧ Row4 wr w.heap.size noB ∧ Row4 wr (w.heap.size + 1) (rngB lo k) ∧ Below w.heap.size w wr) (fun i _ => (256 - intOf i).toNat)
  case atStart =>
    have R := Row4.zero (w.alloc (.cells #[.int .u64 0, .int .u64 0, .int .u64 0, .int .u64 0] 28))
    rw [World.size_alloc] at R
    exact ⟨lo, Int.le_refl _, .inr rfl, rfl, (Row4.zero w).alloc _, R.congr (by funext x; simp [noB, rngB]), ((Below.refl _ _).alloc (Nat.le_refl _) _).alloc (by simp) _⟩
  case round =>
    obtain ⟨k, hk0, hk1, rfl, R0, R1, hb⟩ := hrel
    by_cases hlt : k ≤ hi
    · have hk2 : k ≤ 255 := by omega
      have hk3 : 0 ≤ k := by omega
      clear hk1
      have hcl : wr.cell? ⟨w.heap.size + 1, (k / 64).toNat, none⟩ = some (.int .u64 (W (rngB lo k) (k.toNat / 64))) := by
        rw [show (k / 64).toNat = k.toNat / 64 from by omega]; exact R1.at_ (by omega)
      have hcf := R1.thawed
      have hq : IntKind.u8.wrap (k.tdiv 64) = k / 64 := u8_quo k hk3 hk2
      have hq1 : k / 64 < 4 := by omega
      have hq0 : 0 ≤ k / 64 := by omega
      go_wp2
      refine wp_region_still_tail 8 (by kernel_rfl) (by kernel_rfl) ?_
      simp only [List.take_succ_cons, List.take_zero, List.drop_succ_cons, List.drop_zero]
      repeat still_step
      still_call ((bit_any k _ hk3 hk2).mono fun _ _ h => ⟨h.1, h.2.symm⟩)
      repeat still_step
      refine wpStill_nil ?_
      change wpList _ _ _ _ _ wr.drew
      go_wp2
      rw [W_or, ← addB_eq, show (k / 64).toNat = k.toNat / 64 from by omega]
      refine ⟨⟨k + 1, by omega, .inl (by omega), rfl, (R0.far (by simp) _).drew, ((R1.add k.toNat (by omega)).congr ?_).drew, (hb.setCell (by simp) _).drew⟩, by simp [intOf]; omega⟩
      funext x
      unfold addB rngB
      rw [Bool.eq_iff_iff]
      simp
      omega
    · have hk4 : hi < k := by omega
      obtain ⟨c0, c1, c2, c3⟩ := R1.cells
      obtain ⟨r0, r1, r2, r3⟩ := R0.cells
      have rf := R0.thawed
      have HE := hidd hk1
      clear hk1
      go_wp2
      have e : rngB lo k = rngB lo (hi + 1) := by
        funext x
        have := HE.out
        unfold rngB
        rw [decide_eq_decide]
        omega
      rw [e]
      exact ret_set Tryd.results121 rfl (R0.fill _) rfl ⟨rfl, (((hb.setCell (by simp) _).setCell (by simp) _).setCell (by simp) _).setCell (by simp) _⟩

theorem any_snoc (l : List Int) (k : Nat) (h : k < l.length) : inB (l.take (k + 1)) = addB (inB (l.take k)) (l.getD k 0).toNat := by
  funext x
  unfold inB addB
  rw [List.take_succ_eq_append_getElem h, List.any_append, List.getD_eq_getElem?_getD, List.getElem?_eq_getElem h]
  simp

set_option maxHeartbeats 1000000 in
theorem of_any (A : Option Addr) (c : Nat) (xs : List Int) (w : World) (hx : Bts w w.heap.size A xs) (hl : xs.length ≤ 1000000) :
    Calls Tryd.prog 29 #[.slice A xs.length c] w fun e w' => e = .returned (.agg #[.int .u64 (W (inB xs) 0), .int .u64 (W (inB xs) 1), .int .u64 (W (inB xs) 2), .int .u64 (W (inB xs) 3)]) ∧ Below w.heap.size w w' := by
  go_enter Tryd.func29, Tryd.ntmps29
  go_wp2
  go_loopw [8] (fun i wr => ∃ k : Nat, k ≤ xs.length ∧ i = .int .i64 k ∧ Row4 wr w.heap.size noB ∧ Row4 wr (w.heap.size + 1) (inB (xs.take k)) ∧ Below w.heap.size w wr) (fun i _ => xs.length - (intOf i).toNat)
  case atStart =>
    have R := Row4.zero (w.alloc (.cells #[.int .u64 0, .int .u64 0, .int .u64 0, .int .u64 0] 28))
    rw [World.size_alloc] at R
    exact ⟨0, Nat.zero_le _, rfl, (Row4.zero w).alloc _, R.congr (by funext x; simp [noB, inB]), ((Below.refl _ _).alloc (Nat.le_refl _) _).alloc (by simp) _⟩
  case round =>
    obtain ⟨k, hk0, rfl, R0, R1, hb⟩ := hrel
    by_cases hlt : k < xs.length
    · have hs := any_snoc xs k hlt
      have HS := hidd hs
      obtain ⟨g, off, rfl, hg, hcx, hb0, hb1⟩ := (hx.below hb).at_ hlt
      clear hs hx
      generalize xs.getD k 0 = b at *
      have hcl : wr.cell? ⟨w.heap.size + 1, (b / 64).toNat, none⟩ = some (.int .u64 (W (inB (xs.take k)) (b.toNat / 64))) := by
        rw [show (b / 64).toNat = b.toNat / 64 from by omega]; exact R1.at_ (by omega)
      have hcf := R1.thawed
      have hq : IntKind.u8.wrap (b.tdiv 64) = b / 64 := u8_quo b hb0 hb1
      have hq1 : b / 64 < 4 := by omega
      have hq0 : 0 ≤ b / 64 := by omega
      go_wp2
      refine wp_region_still_tail 8 (by kernel_rfl) (by kernel_rfl) ?_
      simp only [List.take_succ_cons, List.take_zero, List.drop_succ_cons, List.drop_zero]
      repeat still_step
      still_call ((bit_any b _ hb0 hb1).mono fun _ _ h => ⟨h.1, h.2.symm⟩)
      repeat still_step
      refine wpStill_nil ?_
      change wpList _ _ _ _ _ wr.drew
      go_wp2
      rw [W_or, ← addB_eq, show (b / 64).toNat = b.toNat / 64 from by omega]
      exact ⟨⟨k + 1, by omega, rfl, (R0.far (by simp) _).drew, ((R1.add b.toNat (by omega)).congr HS.out.symm).drew, (hb.setCell (by simp) _).drew⟩, by simp [intOf]; omega⟩
    · obtain ⟨c0, c1, c2, c3⟩ := R1.cells
      obtain ⟨r0, r1, r2, r3⟩ := R0.cells
      have rf := R0.thawed
      have HT := hidd (List.take_of_length_le (l := xs) (i := k) (by omega))
      go_wp2
      rw [HT.out]
      exact ret_set Tryd.results29 rfl (R0.fill _) rfl ⟨rfl, (((hb.setCell (by simp) _).setCell (by simp) _).setCell (by simp) _).setCell (by simp) _⟩

set_option maxHeartbeats 1000000 in
theorem rof_any (A : Option Addr) (c : Nat) (xs : List Int) (w : World) (hx : Bts w w.heap.size A xs) (hl : xs.length ≤ 1000000) :
    Calls Tryd.prog 17 #[.slice A xs.length c] w fun e w' => e = .returned (.agg #[.int .u64 (W (inB xs) 0), .int .u64 (W (inB xs) 1), .int .u64 (W (inB xs) 2), .int .u64 (W (inB xs) 3)]) ∧ Below w.heap.size w w' := by
  go_enter Tryd.func17, Tryd.ntmps17
  go_wp2
  go_loopw [4] (fun i wr => ∃ k : Nat, k ≤ xs.length ∧ i = .int .i64 k ∧ Row4 wr w.heap.size noB ∧ Row4 wr (w.heap.size + 1) (inB (xs.take k)) ∧ Below w.heap.size w wr) (fun i _ => xs.length - (intOf i).toNat)
  case atStart =>
    have R := Row4.zero (w.alloc (.cells #[.int .u64 0, .int .u64 0, .int .u64 0, .int .u64 0] 28))
    rw [World.size_alloc] at R
    exact ⟨0, Nat.zero_le _, rfl, (Row4.zero w).alloc _, R.congr (by funext x; simp [noB, inB]), ((Below.refl _ _).alloc (Nat.le_refl _) _).alloc (by simp) _⟩
  case round =>
    obtain ⟨k, hk0, rfl, R0, R1, hb⟩ := hrel
    by_cases hlt : k < xs.length
    · have hs := any_snoc xs k hlt
      have HS := hidd hs
      obtain ⟨g, off, rfl, hg, hcx, hb0, hb1⟩ := (hx.below hb).at_ hlt
      clear hs hx
      generalize xs.getD k 0 = b at *
      obtain ⟨c0, c1, c2, c3⟩ := R1.cells
      go_wp2
      refine wp_region_still_tail 5 (by kernel_rfl) (by kernel_rfl) ?_
      simp only [List.take_succ_cons, List.take_zero, List.drop_succ_cons, List.drop_zero]
      repeat still_step
      refine wpStill_nil ?_
      change wpList _ _ _ _ _ wr.drew
      go_wp2_with fail
      refine (with_any (inB (xs.take k)) b _ hb0 hb1).mono ?_
      rintro e w1 ⟨rfl, hbw⟩
      have Q0 := R0.drew.below hbw R0.lt
      have Q1 := R1.drew.below hbw R1.lt
      obtain ⟨d0, d1, d2, d3⟩ := Q1.cells
      have df := Q1.thawed
      clear c0 c1 c2 c3
      go_wp2
      refine ⟨⟨k + 1, by omega, rfl, (((Q0.far (by simp) _).far (by simp) _).far (by simp) _).far (by simp) _, (Q1.fill _).congr HS.out.symm, ?_⟩, by simp [intOf]; omega⟩
      exact ((((hb.drew.trans (hbw.mono hb.size)).setCell (by simp) _).setCell (by simp) _).setCell (by simp) _).setCell (by simp) _
    · obtain ⟨c0, c1, c2, c3⟩ := R1.cells
      obtain ⟨r0, r1, r2, r3⟩ := R0.cells
      have rf := R0.thawed
      have HT := hidd (List.take_of_length_le (l := xs) (i := k) (by omega))
      go_wp2
      rw [HT.out]
      exact ret_set Tryd.results17 rfl (R0.fill _) rfl ⟨rfl, (((hb.setCell (by simp) _).setCell (by simp) _).setCell (by simp) _).setCell (by simp) _⟩

set_option maxHeartbeats 1000000 in
theorem rrange_any (lo hi : Int) (w : World) (l0 : 0 ≤ lo) (l1 : lo ≤ 255) (h0 : 0 ≤ hi) (h1 : hi ≤ 255) :
    Calls Tryd.prog 117 #[.int .u8 lo, .int .u8 hi] w fun e w' => e = .returned (.agg #[.int .u64 (W (rngB lo (hi + 1)) 0), .int .u64 (W (rngB lo (hi + 1)) 1), .int .u64 (W (rngB lo (hi + 1)) 2), .int .u64 (W (rngB lo (hi + 1)) 3)]) ∧ Below w.heap.size w w' := by
  go_enter Tryd.func117, Tryd.ntmps117
  go_wp2
  go_loopw [6] (fun i wr => ∃ k : Int, lo ≤ k ∧ (k ≤ hi + 1 ∨ k = lo) ∧ i = .int .i64 k ∧ Row4 wr w.heap.size noB ∧ Row4 wr (w.heap.size + 1) (rngB lo k) ∧ Below w.heap.size w wr) (fun i _ => (256 - intOf i).toNat)
  case atStart =>
    have R := Row4.zero (w.alloc (.cells #[.int .u64 0, .int .u64 0, .int .u64 0, .int .u64 0] 28))
    rw [World.size_alloc] at R
    exact ⟨lo, Int.le_refl _, .inr rfl, rfl, (Row4.zero w).alloc _, R.congr (by funext x; simp [noB, rngB]), ((Below.refl _ _).alloc (Nat.le_refl _) _).alloc (by simp) _⟩
  case round =>
    obtain ⟨k, hk0, hk1, rfl, R0, R1, hb⟩ := hrel
    obtain ⟨c0, c1, c2, c3⟩ := R1.cells
    by_cases hlt : k ≤ hi
    · have hk2 : k ≤ 255 := by omega
      have hk3 : 0 ≤ k := by omega
      clear hk1
      go_wp2_with fail
      refine (with_any (rngB lo k) k _ hk3 hk2).mono ?_
      rintro e w1 ⟨rfl, hbw⟩
      have Q0 := R0.below hbw R0.lt
      have Q1 := R1.below hbw R1.lt
      obtain ⟨d0, d1, d2, d3⟩ := Q1.cells
      have df := Q1.thawed
      clear c0 c1 c2 c3
      go_wp2
      refine ⟨⟨k + 1, by omega, .inl (by omega), rfl, (((Q0.far (by simp) _).far (by simp) _).far (by simp) _).far (by simp) _, (Q1.fill _).congr ?_, ?_⟩, by simp [intOf]; omega⟩
      · funext x
        unfold addB rngB
        rw [Bool.eq_iff_iff]
        simp
        omega
      · exact ((((hb.trans (hbw.mono hb.size)).setCell (by simp) _).setCell (by simp) _).setCell (by simp) _).setCell (by simp) _
    · have hk4 : hi < k := by omega
      obtain ⟨r0, r1, r2, r3⟩ := R0.cells
      have rf := R0.thawed
      have HE := hidd hk1
      clear hk1
      go_wp2
      have e : rngB lo k = rngB lo (hi + 1) := by
        funext x
        have := HE.out
        unfold rngB
        rw [decide_eq_decide]
        omega
      rw [e]
      exact ret_set Tryd.results117 rfl (R0.fill _) rfl ⟨rfl, (((hb.setCell (by simp) _).setCell (by simp) _).setCell (by simp) _).setCell (by simp) _⟩

end Go.Proofs.YtghjkbjpdjlddaaDoor
