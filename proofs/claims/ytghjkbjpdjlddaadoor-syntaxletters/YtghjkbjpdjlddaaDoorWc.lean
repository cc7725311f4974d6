/- Or and And of bset. -/
import Derived.Test.YtghjkbjpdjlddaaDoorWb
namespace Go.Proofs.YtghjkbjpdjlddaaDoor
open Go.RowKit
set_option maxRecDepth 100000
def anyB (ps : List (Nat → Bool)) (x : Nat) : Bool := ps.any fun p => p x
def everyB (ps : List (Nat → Bool)) (x : Nat) : Bool := ps.all fun p => p x
theorem anyB_snoc (l : List (Nat → Bool)) (k : Nat) (h : k < l.length) : anyB (l.take (k + 1)) = orB (anyB (l.take k)) (l.getD k noB) := by
  funext x
  unfold anyB orB
  rw [List.take_succ_eq_append_getElem h, List.any_append, List.getD_eq_getElem?_getD, List.getElem?_eq_getElem h]
  simp
theorem everyB_snoc (l : List (Nat → Bool)) (k : Nat) (h : k < l.length) : everyB (l.take (k + 1)) = andB (everyB (l.take k)) (l.getD k noB) := by
  funext x
  unfold everyB andB
  rw [List.take_succ_eq_append_getElem h, List.all_append, List.getD_eq_getElem?_getD, List.getElem?_eq_getElem h]
  simp

/-- The words below n of p, the others of q. -/
def mixB (n : Nat) (p q : Nat → Bool) (x : Nat) : Bool := if x < 64 * n then p x else q x
theorem mix_lo {n k : Nat} (p q : Nat → Bool) (h : k < n) : W (mixB n p q) k = W p k := by
  apply W_congr
  intro j hj
  unfold mixB
  rw [if_pos (by omega)]
theorem mix_hi {n k : Nat} (p q : Nat → Bool) (h : n ≤ k) : W (mixB n p q) k = W q k := by
  apply W_congr
  intro j hj
  unfold mixB
  rw [if_neg (by omega)]
theorem mix_zero (p q : Nat → Bool) : mixB 0 p q = q := by
  funext x; unfold mixB; rw [if_neg (by omega)]
theorem Row4.same {w : World} {g : Nat} {p q : Nat → Bool} (h : Row4 w g p) (e : ∀ k, k < 4 → W p k = W q k) : Row4 w g q := by
  unfold Row4 at h ⊢
  rw [h, e 0 (by omega), e 1 (by omega), e 2 (by omega), e 3 (by omega)]
theorem Row4.mix4 {w : World} {g : Nat} {p q : Nat → Bool} (h : Row4 w g (mixB 4 p q)) : Row4 w g p := h.same fun _ hk => mix_lo p q hk
theorem Row4.mixPut {w : World} {g : Nat} {p q : Nat → Bool} {j : Nat} (hj : j < 4) (h : Row4 w g (mixB j p q)) : Row4 (w.setCell ⟨g, j, none⟩ (.int .u64 (W p j))) g (mixB (j + 1) p q) := by
  rw [← mix_lo (n := j + 1) p q (by omega : j < j + 1)]
  refine h.put hj fun i _ hne => ?_
  rcases Nat.lt_or_ge i j with hl | hg
  · rw [mix_lo p q (by omega), mix_lo p q hl]
  · rw [mix_hi p q (by omega), mix_hi p q hg]

set_option maxHeartbeats 2000000 in
theorem or_any (A : Option Addr) (c : Nat) (ps : List (Nat → Bool)) (w : World) (hx : Sts w w.heap.size A ps) (hl : ps.length ≤ 1000000) :
    Calls Tryd.prog 104 #[.slice A ps.length c] w fun e w' => e = .returned (.agg #[.int .u64 (W (anyB ps) 0), .int .u64 (W (anyB ps) 1), .int .u64 (W (anyB ps) 2), .int .u64 (W (anyB ps) 3)]) ∧ Below w.heap.size w w' := by
  go_enter Tryd.func104, Tryd.ntmps104
  go_wp2
  go_loopw [9] (fun i wr => ∃ k : Nat, k ≤ ps.length ∧ i = .int .i64 k ∧ Row4 wr w.heap.size noB ∧ Row4 wr (w.heap.size + 1) (anyB (ps.take k)) ∧ Below w.heap.size w wr) (fun i _ => ps.length - (intOf i).toNat)
  case atStart =>
    have R := Row4.zero (w.alloc (.cells #[.int .u64 0, .int .u64 0, .int .u64 0, .int .u64 0] 28))
    rw [World.size_alloc] at R
    exact ⟨0, Nat.zero_le _, rfl, (Row4.zero w).alloc _, R.congr (by funext x; simp [noB, anyB]), ((Below.refl _ _).alloc (Nat.le_refl _) _).alloc (by simp) _⟩
  case round =>
    obtain ⟨k, hk0, rfl, R0, R1, hb⟩ := hrel
    obtain ⟨c0, c1, c2, c3⟩ := R1.cells
    have cf := R1.thawed
    by_cases hlt : k < ps.length
    · have hs := anyB_snoc ps k hlt
      have HS := hidd hs
      have hz := R1.lt
      obtain ⟨g, off, rfl, hg, x0, x1, x2, x3⟩ := (hx.below hb).at_ hlt
      clear hs hx
      generalize ps.getD k noB = q at *
      go_wp2
      go_loopw [13] (fun i wi => ∃ j : Nat, j ≤ 4 ∧ i = .int .i64 j ∧ Row4 wi w.heap.size noB ∧ Row4 wi (w.heap.size + 1) (mixB j (orB (anyB (ps.take k)) q) (anyB (ps.take k))) ∧ Row4 wi wr.heap.size q ∧ Below w.heap.size w wi) (fun i _ => 4 - (intOf i).toNat)
      case atStart =>
        exact ⟨0, Nat.zero_le _, rfl, R0.alloc _, (R1.alloc _).congr (mix_zero _ _).symm, Row4.new wr q, hb.alloc (by omega) _⟩
      case round =>
        obtain ⟨j, hj0, rfl, S0, S1, S2, hbi⟩ := hrel
        clear c0 c1 c2 c3 x0 x1 x2 x3 cf
        by_cases hj : j < 4
        · have s1 := S1.at_ hj
          rw [mix_hi _ _ (Nat.le_refl _)] at s1
          have s2 := S2.at_ hj
          have sf := S1.thawed
          have hji : (j : Int) < 4 := by omega
          go_wp2
          refine wp_region_still_tail 8 (by kernel_rfl) (by kernel_rfl) ?_
          simp only [List.take_succ_cons, List.take_zero, List.drop_succ_cons, List.drop_zero]
          repeat still_step
          refine wpStill_nil ?_
          change wpList _ _ _ _ _ wr.drew
          go_wp2
          rw [W_or]
          exact ⟨⟨j + 1, by omega, rfl, (S0.far (by simp) _).drew, (S1.mixPut hj).drew, (S2.far (by simp; omega) _).drew, (hbi.setCell (by simp) _).drew⟩, by simp [intOf]; omega⟩
        · have hj4 : j = 4 := by omega
          go_wp2
          subst hj4
          exact ⟨⟨k + 1, by omega, rfl, S0, S1.mix4.congr HS.out.symm, hbi⟩, by simp [intOf]; omega⟩
    · obtain ⟨r0, r1, r2, r3⟩ := R0.cells
      have rf := R0.thawed
      have HT := hidd (List.take_of_length_le (l := ps) (i := k) (by omega))
      go_wp2
      rw [HT.out]
      exact ret_set Tryd.results104 rfl (R0.fill _) rfl ⟨rfl, (((hb.setCell (by simp) _).setCell (by simp) _).setCell (by simp) _).setCell (by simp) _⟩

theorem not_zero (w : World) : Calls Tryd.prog 28 #[.agg #[.int .u64 0, .int .u64 0, .int .u64 0, .int .u64 0]] w fun e w' => e = .returned (.agg #[.int .u64 (W (notB noB) 0), .int .u64 (W (notB noB) 1), .int .u64 (W (notB noB) 2), .int .u64 (W (notB noB) 3)]) ∧ Below w.heap.size w w' := by
  have h := not_any noB w
  simp only [W_zero] at h
  exact h


end Go.Proofs.YtghjkbjpdjlddaaDoor
