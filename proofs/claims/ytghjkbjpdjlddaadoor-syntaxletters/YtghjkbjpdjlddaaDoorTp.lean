/- The landed parser: how often, and an atom that is no parenthesis. -/
import Derived.Test.YtghjkbjpdjlddaaDoorTo
namespace Go.Proofs.YtghjkbjpdjlddaaDoor.Sy
open Go.RowKit
set_option maxRecDepth 100000
set_option linter.unusedVariables false

section
variable {w w' : World} {b : Nat} {s : ByteArray} {er pl : Int} {v : Value} {d : Int} {l : List NR}
set_option maxHeartbeats 1000000 in
theorem prepet_any {i : Nat} (r : PR w b s i er pl v d) (hi : i < s.size) (hs : s.size ≤ 100000) (hE : EV w) (hvb : 5 ≠ b) (hr : repAt (bs s) i = true) :
    Calls Tryd.prog 81 #[.pointer (some ⟨b, 0, none⟩)] w fun e w' => Touch b b w w' ∧ GotN b s er pl v d (repet (bs s) i) e w' := by
  have hbl := bs_len s
  unfold repAt at hr
  simp only [is_of (show i < (bs s).length from by rw [hbl]; exact hi), Bool.or_eq_true, Bool.and_eq_true, beq_iff_eq] at hr
  go_enter Tryd.func81, Tryd.ntmps81
  go_wp2_with fail
  refine (next_any r hi hs).mono ?_
  rintro e w1 ⟨rfl, R1, T1⟩
  have hE1 := EV.touch hE T1 hvb
  clear r hE hbl
  rcases hr with ((h | h) | h) | ⟨h, hdg⟩
  · skip
    have e1 : at_ (bs s) i = 42 := h
    rw [e1]
    have HR : Hid (repet (bs s) i = .ok ((0, (-1)), i + 1)) := by show _ = _; unfold repet; simp [e1]
    clear e1 h
    go_wp2
    go_ret3
    refine ⟨T1, ?_⟩
    rw [HR.out]
    exact ⟨rfl, R1⟩
  · skip
    have e1 : at_ (bs s) i = 43 := h
    rw [e1]
    have HR : Hid (repet (bs s) i = .ok ((1, (-1)), i + 1)) := by show _ = _; unfold repet; simp [e1]
    clear e1 h
    go_wp2
    go_ret3
    refine ⟨T1, ?_⟩
    rw [HR.out]
    exact ⟨rfl, R1⟩
  · skip
    have e1 : at_ (bs s) i = 63 := h
    rw [e1]
    have HR : Hid (repet (bs s) i = .ok ((0, 1), i + 1)) := by show _ = _; unfold repet; simp [e1]
    clear e1 h
    go_wp2
    go_ret3
    refine ⟨T1, ?_⟩
    rw [HR.out]
    exact ⟨rfl, R1⟩
  · have e1 : at_ (bs s) i = 123 := h
    rw [e1]
    have HR : Hid (repet (bs s) i = bounds (bs s) i) := by show _ = _; unfold repet; simp [e1]
    clear e1 h
    obtain ⟨c0, c1, c2, c3, c4, c5⟩ := R1.cells
    rw [show ((i + 1 : Nat) : Int) = (i : Int) + 1 from by omega] at c1
    go_wp2_with fail
    clear c0 c1 c2 c3 c4 c5
    refine (pbounds_any R1 hi hs hE1 hvb hdg).mono ?_
    rintro e w2 ⟨T2, hg⟩
    have T := T1.trans T2
    clear T1 T2 R1 hE1
    unfold GotN at hg
    cases ho : bounds (bs s) i with
    | ok x =>
      rw [ho] at hg HR
      obtain ⟨rfl, R2⟩ := hg
      go_wp2
      go_ret3
      refine ⟨T, ?_⟩
      rw [HR.out]
      exact ⟨rfl, R2⟩
    | error x =>
      rw [ho] at hg HR
      obtain ⟨rfl, R2⟩ := hg
      go_wp2
      go_ret3
      refine ⟨T, ?_⟩
      rw [HR.out]
      exact ⟨rfl, R2⟩

theorem sees_val {i : Nat} (r : PR w b s i er pl v d) (hi : i < s.size) (t : ByteArray) (z : Bool) (hz : (bs t).contains (at_ (bs s) i) = z) : Calls Tryd.prog 69 #[.pointer (some ⟨b, 0, none⟩), .string t] w fun e w' => e = .returned (.bool z) ∧ PR w' b s i er pl v d ∧ Touch b b w w' := by
  refine (sees_any r (by omega) t).mono ?_
  rintro e w' ⟨rfl, m, rfl⟩
  refine ⟨?_, r.drewN m, (Touch.refl b b w).drewN m⟩
  unfold seesB
  rw [decide_eq_true (by rw [bs_len]; exact hi), Bool.true_and, hz]
theorem bnds_val {i : Nat} (r : PR w b s i er pl v d) (hi : i < s.size) (hs : s.size ≤ 100000) (z : Bool) (hz : ((at_ (bs s) i == 123) && dig (bs s) (i + 1)) = z) : Calls Tryd.prog 80 #[.pointer (some ⟨b, 0, none⟩)] w fun e w' => e = .returned (.bool z) ∧ PR w' b s i er pl v d ∧ Touch b b w w' := by
  refine (bnds_any r (by omega) hs).mono ?_
  rintro e w' ⟨rfl, m, rfl⟩
  refine ⟨?_, r.drewN m, (Touch.refl b b w).drewN m⟩
  rw [is_of (by rw [bs_len]; exact hi), hz]
theorem of_one (c : Nat) (hc : c < 256) (w : World) : Calls Tryd.prog 29 #[.slice (some ⟨w.heap.size, 0, none⟩) 1 1] (w.alloc (.cells #[.int .u8 (c : Int)] 5)) fun e w' => e = .returned (.agg #[.int .u64 (W (oneS c) 0), .int .u64 (W (oneS c) 1), .int .u64 (W (oneS c) 2), .int .u64 (W (oneS c) 3)]) ∧ Below w.heap.size w w' := by
  refine (of_any (some ⟨w.heap.size, 0, none⟩) 1 [(c : Int)] _ (bts_one w (c : Int) (by omega) (by omega)) (by simp)).mono ?_
  rintro e w' ⟨rfl, hb⟩
  rw [one_words, one_words, one_words, one_words, Int.toNat_natCast]
  exact ⟨rfl, bel1 hb⟩
end

end Go.Proofs.YtghjkbjpdjlddaaDoor.Sy
