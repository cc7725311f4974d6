/- The landed parser: a byte of a class, and two with what is between them. -/
import Derived.Test.YtghjkbjpdjlddaaDoorTe
import Derived.Test.YtghjkbjpdjlddaaDoorWc
namespace Go.Proofs.YtghjkbjpdjlddaaDoor.Sy
open Go.RowKit
set_option maxRecDepth 100000

section
variable {t : List Nat}
theorem member_lt (h : ∀ c ∈ t, c < 256) {i c j : Nat} (ho : member t i = .ok (c, j)) : c < 256 := by
  unfold member at ho
  split at ho
  · cases ho
  · split at ho
    · cases ho
    · exact one_lt h ho
end

section
variable {w w' : World} {b : Nat} {s : ByteArray} {er pl : Int} {v : Value} {d : Int}
set_option maxHeartbeats 1000000 in
theorem member_any {i : Nat} (r : PR w b s i er pl v d) (hi : i ≤ s.size) (hs : s.size ≤ 100000) :
    Calls Tryd.prog 120 #[.pointer (some ⟨b, 0, none⟩)] w fun e w' => Touch b b w w' ∧ GotB b s er pl v d (member (bs s) i) e w' := by
  have hbl := bs_len s
  go_enter Tryd.func120, Tryd.ntmps120
  go_wp2_with fail
  rcases Nat.lt_or_ge i s.size with hlt | hge
  · refine (ended_no r hlt).mono ?_
    rintro e w1 ⟨rfl, m, rfl⟩
    have R := r.drewN m
    have T := (Touch.refl b b w).drewN m
    generalize w.drewN m = w1 at *
    go_wp2_with fail
    refine (sees_any R hi { data := #[93, 45, 94] }).mono ?_
    rintro e w2 ⟨rfl, m2, rfl⟩
    have R2 := R.drewN m2
    have T2 := T.drewN m2
    clear r R T
    generalize w1.drewN m2 = w2 at *
    have hsee : seesB (bs s) i (bs { data := #[93, 45, 94] }) = decide (at_ (bs s) i = 93 ∨ at_ (bs s) i = 45 ∨ at_ (bs s) i = 94) := by
      unfold seesB
      rw [decide_eq_true (by rw [hbl]; exact hlt), Bool.true_and]
      show ([93, 45, 94] : List Nat).contains _ = _
      simp
    rw [hsee]
    clear hsee
    by_cases h : at_ (bs s) i = 93 ∨ at_ (bs s) i = 45 ∨ at_ (bs s) i = 94
    · have HR : Hid (member (bs s) i = .error (44, i)) := by show _ = _; unfold member; rw [if_neg (by rw [hbl]; omega), if_pos h]
      rw [decide_eq_true h]
      clear h hbl
      go_wp2_with fail
      refine (fail_here R2 hlt 44).mono ?_
      rintro e w3 ⟨rfl, R3, T3⟩
      have hT := T2.trans T3
      clear T2 T3
      go_wp2
      go_ret2
      refine ⟨hT, ?_⟩
      rw [HR.out]
      exact ⟨rfl, i, R3⟩
    · have hM : member (bs s) i = one (bs s) i := by unfold member; rw [if_neg (by rw [hbl]; omega), if_neg h]
      rw [decide_eq_false h]
      have HM := hidd hM
      clear h hM
      go_wp2_with fail
      refine (sees_any R2 hi { data := #[92] }).mono ?_
      rintro e w3 ⟨rfl, m3, rfl⟩
      have R3 := R2.drewN m3
      have T3 := T2.drewN m3
      clear R2 T2
      generalize w2.drewN m3 = w3 at *
      rw [show bs { data := #[92] } = [92] from rfl, sees_one, is_of (by rw [hbl]; exact hlt)]
      by_cases h92 : at_ (bs s) i = 92
      · have e92 : (at_ (bs s) i == 92) = true := by rw [h92]; rfl
        rw [e92]
        clear e92
        go_wp2_with fail
        refine (escape_any R3 hlt hs h92).mono ?_
        rintro e w4 ⟨T4, hg⟩
        have hT := T3.trans T4
        clear T3 T4
        unfold GotB at hg
        cases ho : one (bs s) i with
        | ok x =>
          rw [ho] at hg
          obtain ⟨rfl, R4⟩ := hg
          go_wp2
          go_ret2
          refine ⟨hT, ?_⟩
          rw [HM.out, ho]
          exact ⟨rfl, R4⟩
        | error x =>
          rw [ho] at hg
          obtain ⟨rfl, R4⟩ := hg
          go_wp2
          go_ret2
          refine ⟨hT, ?_⟩
          rw [HM.out, ho]
          exact ⟨rfl, R4⟩
      · have e92 : (at_ (bs s) i == 92) = false := beq_eq_false_iff_ne.2 h92
        have HR : Hid (member (bs s) i = .ok (at_ (bs s) i, i + 1)) := by show _ = _; rw [HM.out]; unfold one; rw [if_pos h92]
        rw [e92]
        clear e92 h92
        go_wp2_with fail
        refine (next_any R3 hlt hs).mono ?_
        rintro e w4 ⟨rfl, R4, T4⟩
        have hT := T3.trans T4
        clear T3 T4
        go_wp2
        go_ret2
        refine ⟨hT, ?_⟩
        rw [HR.out]
        exact ⟨rfl, R4⟩
  · have hie : i = s.size := by omega
    subst hie
    have HR : Hid (member (bs s) s.size = .error (40, s.size)) := by show _ = _; unfold member; rw [if_pos (by rw [hbl]; exact Nat.le_refl _), hbl]
    refine (ended_yes r rfl).mono ?_
    rintro e w1 ⟨rfl, m, rfl⟩
    have R := r.drewN m
    have T := (Touch.refl b b w).drewN m
    generalize w.drewN m = w1 at *
    clear hbl
    go_wp2_with fail
    refine (fail_end R rfl 44).mono ?_
    rintro e w3 ⟨rfl, R3, T3⟩
    have hT := T.trans T3
    clear T T3
    go_wp2
    go_ret2
    refine ⟨hT, ?_⟩
    rw [HR.out]
    exact ⟨rfl, s.size, R3⟩
end

end Go.Proofs.YtghjkbjpdjlddaaDoor.Sy
