/- Not, Or and And of the reference. -/
import Derived.Test.YtlfbjnmehdifeaaWd
namespace Go.Proofs.Ytlfbjnmehdifeaa
open Go.RowKit

/-- The bytes of p below n. -/
def belB (n : Nat) (p : Nat → Bool) (x : Nat) : Bool := decide (x < n) && p x
theorem bel_yes (n : Nat) (p : Nat → Bool) (h : p n = true) : addB (belB n p) n = belB (n + 1) p := by
  funext x
  unfold addB belB
  rw [Bool.eq_iff_iff]
  simp
  by_cases e : x = n
  · subst e; simp [h]
  · simp [e]; omega
theorem bel_no (n : Nat) (p : Nat → Bool) (h : p n = false) : belB n p = belB (n + 1) p := by
  funext x
  unfold belB
  by_cases e : x = n
  · subst e; simp [h]
  · congr 1
    rw [decide_eq_decide]; omega
theorem Row4.bel256 {w : World} {g : Nat} {p : Nat → Bool} (h : Row4 w g (belB 256 p)) : Row4 w g p :=
  h.same fun k hk => W_congr fun j hj => by unfold belB; simp; omega
theorem bel_zero (p : Nat → Bool) : noB = belB 0 p := by funext x; simp [noB, belB]

set_option maxRecDepth 100000 in
set_option maxHeartbeats 1000000 in
theorem rnot_any (p : Nat → Bool) (w : World) :
    Calls Try.prog 25 #[.agg #[.int .u64 (W (p) 0), .int .u64 (W (p) 1), .int .u64 (W (p) 2), .int .u64 (W (p) 3)]] w fun e w' => e = .returned (.agg #[.int .u64 (W (notB p) 0), .int .u64 (W (notB p) 1), .int .u64 (W (notB p) 2), .int .u64 (W (notB p) 3)]) ∧ Below w.heap.size w w' := by
  go_enter Try.func25, Try.ntmps25
  go_wp2
  go_loopw [4] (fun i wr => ∃ k : Nat, k ≤ 256 ∧ i = .int .i64 k ∧ Row4 wr w.heap.size p ∧ Row4 wr (w.heap.size + 1) noB ∧ Row4 wr (w.heap.size + 1 + 1) (belB k (notB p)) ∧ Below w.heap.size w wr) (fun i _ => 256 - (intOf i).toNat)
  case atStart =>
    have R1 := Row4.zero (w.alloc (.cells (#[.int .u64 (W (p) 0), .int .u64 (W (p) 1), .int .u64 (W (p) 2), .int .u64 (W (p) 3)]) 33))
    have R2 := Row4.zero ((w.alloc (.cells (#[.int .u64 (W (p) 0), .int .u64 (W (p) 1), .int .u64 (W (p) 2), .int .u64 (W (p) 3)]) 33)).alloc (.cells #[.int .u64 0, .int .u64 0, .int .u64 0, .int .u64 0] 33))
    rw [World.size_alloc] at R1
    rw [World.size_alloc, World.size_alloc] at R2
    exact ⟨0, Nat.zero_le _, rfl, ((Row4.new w p).alloc _).alloc _, R1.alloc _, R2.congr (bel_zero _), (((Below.refl _ _).alloc (Nat.le_refl _) _).alloc (by simp) _).alloc (by simp; omega) _⟩
  case round =>
    obtain ⟨k, hk0, rfl, R0, R1, R2, hb⟩ := hrel
    by_cases hlt : k < 256
    · have hk1 : (k : Int) ≤ 255 := by omega
      obtain ⟨c0, c1, c2, c3⟩ := R0.cells
      go_wp2_with fail
      refine (rhas_any p (k : Int) _ (by omega) hk1).mono ?_
      rintro e w1 ⟨rfl, hb1⟩
      have Q0 := R0.below hb1 R0.lt
      have Q1 := R1.below hb1 R1.lt
      have Q2 := R2.below hb1 R2.lt
      have hbb := hb.trans (hb1.mono hb.size)
      rw [Int.toNat_natCast]
      clear c0 c1 c2 c3 R0 R1 R2 hb1 hb
      cases hp : p k with
      | false =>
        have HS := hidd (bel_yes k (notB p) (by simp [notB, hp]))
        obtain ⟨c0, c1, c2, c3⟩ := Q2.cells
        go_wp2_with fail
        refine (with_any (belB k (notB p)) (k : Int) _ (by omega) hk1).mono ?_
        rintro e w2 ⟨rfl, hb2⟩
        have S0 := Q0.below hb2 Q0.lt
        have S1 := Q1.below hb2 Q1.lt
        have S2 := Q2.below hb2 Q2.lt
        have hbc := hbb.trans (hb2.mono hbb.size)
        rw [Int.toNat_natCast]
        clear c0 c1 c2 c3 Q0 Q1 Q2 hb2 hbb
        obtain ⟨c0, c1, c2, c3⟩ := S2.cells
        have cf := S2.thawed
        go_wp2
        refine ⟨⟨k + 1, by omega, rfl, (((S0.far (by simp; omega) _).far (by simp; omega) _).far (by simp; omega) _).far (by simp; omega) _, (((S1.far (by simp) _).far (by simp) _).far (by simp) _).far (by simp) _, (S2.fill _).congr HS.out, ?_⟩, by simp [intOf]; omega⟩
        exact (((hbc.setCell (by simp; omega) _).setCell (by simp; omega) _).setCell (by simp; omega) _).setCell (by simp; omega) _
      | true =>
        have HS := hidd (bel_no k (notB p) (by simp [notB, hp]))
        go_wp2
        exact ⟨⟨k + 1, by omega, rfl, Q0, Q1, Q2.congr HS.out, hbb⟩, by simp [intOf]; omega⟩
    · have hk2 : k = 256 := by omega
      subst hk2
      have Q2 := R2.bel256
      obtain ⟨c0, c1, c2, c3⟩ := Q2.cells
      obtain ⟨r0, r1, r2, r3⟩ := R1.cells
      have rf := R1.thawed
      clear R2
      go_wp2
      exact ret_set Try.results25 rfl (R1.fill _) rfl ⟨rfl, (((hb.setCell (by simp) _).setCell (by simp) _).setCell (by simp) _).setCell (by simp) _⟩

/-- The bytes of p below n, and n, if q has it. -/
def curB (n : Nat) (q p : Nat → Bool) (x : Nat) : Bool := (decide (x < n) && p x) || (x == n && q x)
theorem cur_yes (n : Nat) (q q' p : Nat → Bool) (h : q' n = true) : addB (curB n q p) n = curB n q' p := by
  funext x
  unfold addB curB
  by_cases e : x = n
  · subst e; simp [h]
  · have : (x == n) = false := by simpa using e
    simp [this]
theorem cur_no (n : Nat) (q q' p : Nat → Bool) (h : q n = q' n) : curB n q p = curB n q' p := by
  funext x
  unfold curB
  by_cases e : x = n
  · subst e; simp [h]
  · have : (x == n) = false := by simpa using e
    simp [this]
theorem cur_zero (n : Nat) (p : Nat → Bool) : belB n p = curB n noB p := by
  funext x; simp [belB, curB, noB]
theorem cur_end (n : Nat) (p : Nat → Bool) : curB n p p = belB (n + 1) p := by
  funext x
  unfold curB belB
  by_cases e : x = n
  · subst e; simp
  · have : decide (x < n) = decide (x < n + 1) := by rw [decide_eq_decide]; omega
    simp [e, this]

set_option maxRecDepth 100000 in
set_option maxHeartbeats 2000000 in
theorem ror_any (A : Option Addr) (c : Nat) (ps : List (Nat → Bool)) (w : World) (hx : Sts w w.heap.size A ps) (hl : ps.length ≤ 1000000) :
    Calls Try.prog 23 #[.slice A ps.length c] w fun e w' => e = .returned (.agg #[.int .u64 (W (anyB ps) 0), .int .u64 (W (anyB ps) 1), .int .u64 (W (anyB ps) 2), .int .u64 (W (anyB ps) 3)]) ∧ Below w.heap.size w w' := by
  go_enter Try.func23, Try.ntmps23
  go_wp2
  go_loopw [4] (fun i wr => ∃ k : Nat, k ≤ 256 ∧ i = .int .i64 k ∧ Row4 wr w.heap.size noB ∧ Row4 wr (w.heap.size + 1) (belB k (anyB ps)) ∧ Below w.heap.size w wr) (fun i _ => 256 - (intOf i).toNat)
  case atStart =>
    have R := Row4.zero (w.alloc (.cells #[.int .u64 0, .int .u64 0, .int .u64 0, .int .u64 0] 33))
    rw [World.size_alloc] at R
    exact ⟨0, Nat.zero_le _, rfl, (Row4.zero w).alloc _, R.congr (bel_zero _), ((Below.refl _ _).alloc (Nat.le_refl _) _).alloc (by simp) _⟩
  case round =>
    obtain ⟨k, hk0, rfl, R0, R1, hb⟩ := hrel
    by_cases hlt : k < 256
    · have hk1 : (k : Int) ≤ 255 := by omega
      have hk3 : (k : Int) < 256 := by omega
      go_wp2
      go_loopw [5] (fun i wi => ∃ j : Nat, j ≤ ps.length ∧ i = .int .i64 j ∧ Row4 wi w.heap.size noB ∧ Row4 wi (w.heap.size + 1) (curB k (anyB (ps.take j)) (anyB ps)) ∧ Below w.heap.size w wi) (fun i _ => ps.length - (intOf i).toNat)
      case atStart => exact ⟨0, Nat.zero_le _, rfl, R0, R1.congr (cur_zero _ _), hb⟩
      case round =>
        obtain ⟨j, hj0, rfl, S0, S1, hbi⟩ := hrel
        clear R0 R1 hb
        by_cases hj : j < ps.length
        · have hs := anyB_snoc ps j hj
          obtain ⟨g, off, rfl, hg, x0, x1, x2, x3⟩ := (hx.below hbi).at_ hj
          clear hx
          generalize ps.getD j noB = q at *
          have HS := hidd hs
          clear hs
          go_wp2_with fail
          refine (rhas_any q (k : Int) _ (by omega) hk1).mono ?_
          rintro e w1 ⟨rfl, hb1⟩
          have Q0 := S0.below hb1 S0.lt
          have Q1 := S1.below hb1 S1.lt
          have hbb := hbi.trans (hb1.mono hbi.size)
          rw [Int.toNat_natCast]
          clear x0 x1 x2 x3 S0 S1 hb1 hbi
          cases hp : q k with
          | true =>
            have HT := hidd (cur_yes k (anyB (ps.take j)) (anyB (ps.take (j + 1))) (anyB ps) (by rw [HS.out]; simp [orB, hp]))
            obtain ⟨c0, c1, c2, c3⟩ := Q1.cells
            go_wp2_with fail
            refine (with_any (curB k (anyB (ps.take j)) (anyB ps)) (k : Int) _ (by omega) hk1).mono ?_
            rintro e w2 ⟨rfl, hb2⟩
            have S0 := Q0.below hb2 Q0.lt
            have S1 := Q1.below hb2 Q1.lt
            have hbc := hbb.trans (hb2.mono hbb.size)
            rw [Int.toNat_natCast]
            clear c0 c1 c2 c3 Q0 Q1 hb2 hbb
            obtain ⟨c0, c1, c2, c3⟩ := S1.cells
            have cf := S1.thawed
            go_wp2
            refine ⟨⟨j + 1, by omega, rfl, (((S0.far (by simp) _).far (by simp) _).far (by simp) _).far (by simp) _, (S1.fill _).congr HT.out, ?_⟩, by simp [intOf]; omega⟩
            exact (((hbc.setCell (by simp) _).setCell (by simp) _).setCell (by simp) _).setCell (by simp) _
          | false =>
            have HT := hidd (cur_no k (anyB (ps.take j)) (anyB (ps.take (j + 1))) (anyB ps) (by rw [HS.out]; simp [orB, hp]))
            go_wp2
            exact ⟨⟨j + 1, by omega, rfl, Q0, Q1.congr HT.out, hbb⟩, by simp [intOf]; omega⟩
        · have HT := hidd (List.take_of_length_le (l := ps) (i := j) (by omega))
          go_wp2
          refine ⟨⟨k + 1, by omega, rfl, S0, S1.congr ?_, hbi⟩, by simp [intOf]; omega⟩
          rw [HT.out, cur_end]
    · have hk2 : k = 256 := by omega
      subst hk2
      have Q1 := R1.bel256
      obtain ⟨c0, c1, c2, c3⟩ := Q1.cells
      obtain ⟨r0, r1, r2, r3⟩ := R0.cells
      have rf := R0.thawed
      clear R1
      go_wp2
      exact ret_set Try.results23 rfl (R0.fill _) rfl ⟨rfl, (((hb.setCell (by simp) _).setCell (by simp) _).setCell (by simp) _).setCell (by simp) _⟩

end Go.Proofs.Ytlfbjnmehdifeaa
