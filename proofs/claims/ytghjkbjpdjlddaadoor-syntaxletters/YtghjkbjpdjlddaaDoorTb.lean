/- The landed reader: what it sees, what it takes, a name, digits, an escape, a byte of a class. -/
import Derived.Test.YtghjkbjpdjlddaaDoorTa
namespace Go.Proofs.YtghjkbjpdjlddaaDoor.Sy
open Go.RowKit

set_option maxHeartbeats 400000 in
theorem pdigit_any (c : Nat) (w : World) : Calls Tryd.prog 72 #[.int .u8 (c : Int)] w fun e w' => e = .returned (.bool (digitB c)) ∧ w' = w := by
  by_cases h1 : 48 ≤ c
  · have h1i : (48 : Int) ≤ (c : Int) := by omega
    by_cases h2 : c ≤ 57
    · have HV : Hid (digitB c = true) := by show _ = _; simp [digitB, h1, h2]
      have h2i : (c : Int) ≤ 57 := by omega
      go_enter Tryd.func72, Tryd.ntmps72
      go_wp2
      go_ret
      exact ⟨by rw [HV.out]; rfl, rfl⟩
    · have HV : Hid (digitB c = false) := by show _ = _; simp [digitB]; omega
      have h2i : ¬ (c : Int) ≤ 57 := by omega
      go_enter Tryd.func72, Tryd.ntmps72
      go_wp2
      go_ret
      exact ⟨by rw [HV.out]; rfl, rfl⟩
  · have HV : Hid (digitB c = false) := by show _ = _; simp [digitB]; omega
    have h1i : ¬ (48 : Int) ≤ (c : Int) := by omega
    go_enter Tryd.func72, Tryd.ntmps72
    go_wp2
    go_ret
    exact ⟨by rw [HV.out]; rfl, rfl⟩

section
variable {w : World} {b : Nat} {s : ByteArray} {er pl : Int} {v : Value} {d : Int}
set_option maxHeartbeats 400000 in
theorem sees_any {i : Nat} (r : PR w b s i er pl v d) (hi : i ≤ s.size) (t : ByteArray) : Calls Tryd.prog 69 #[.pointer (some ⟨b, 0, none⟩), .string t] w fun e w' => e = .returned (.bool (seesB (bs s) i (bs t))) ∧ ∃ m, w' = w.drewN m := by
  obtain ⟨c0, c1, c2, c3, c4, c5⟩ := r.cells
  rcases Nat.lt_or_ge i s.size with hlt | hge
  · have hE := fun m => ended_no (r.drewN m) hlt
    have hi1 : (i : Int) < (s.size : Int) := by omega
    have hX := fun w => idx_any t s[i].toNat w
    have hv : seesB (bs s) i (bs t) = decide (0 ≤ idx t s[i].toNat) := by
      unfold seesB
      rw [decide_eq_true (by rw [bs_len]; exact hlt), Bool.true_and, at_bs s i hlt, idx_has]
    have HV := hidd hv
    clear hv
    generalize idx t s[i].toNat = z at *
    go_enter Tryd.func69, Tryd.ntmps69
    go_wp2
    go_quiet (first | (go_at_call 37; exact Calls.quiet_of (hE _)) | (go_at_call 26; exact Calls.quiet_of_same (hX _)))
    go_wp2
    go_ret
    exact ⟨by rw [HV.out]; rfl, _, rfl⟩
  · have hE := fun m => ended_yes (r.drewN m) (by omega)
    have HV : Hid (seesB (bs s) i (bs t) = false) := by show _ = _; unfold seesB; rw [decide_eq_false (by rw [bs_len]; omega), Bool.false_and]
    go_enter Tryd.func69, Tryd.ntmps69
    go_wp2
    go_quiet ((go_at_call 37; exact Calls.quiet_of (hE _)))
    go_wp2
    go_ret
    exact ⟨by rw [HV.out]; rfl, _, rfl⟩

set_option maxHeartbeats 400000 in
theorem takes_yes {i c : Nat} (r : PR w b s i er pl v d) (hs : s.size ≤ 100000) (h : is (bs s) i c = true) :
    Calls Tryd.prog 56 #[.pointer (some ⟨b, 0, none⟩), .int .u8 (c : Int)] w fun e w' => e = .returned (.bool true) ∧ PR w' b s ((i + 1 : Nat) : Int) er pl v d ∧ Touch b b w w' := by
  obtain ⟨c0, c1, c2, c3, c4, c5⟩ := r.cells
  have ht := r.thawed
  obtain ⟨h1, h2⟩ := is_lt h
  rw [bs_len] at h1
  rw [at_bs s i h1] at h2
  have hE := fun m => ended_no (r.drewN m) h1
  have hi1 : (i : Int) < (s.size : Int) := by omega
  subst h2
  clear h
  go_enter Tryd.func56, Tryd.ntmps56
  go_wp2
  go_quiet ((go_at_call 37; exact Calls.quiet_of (hE _)))
  go_wp2
  go_ret
  exact ⟨rfl, (r.drewN _).atTo _, ((Touch.refl b b w).drewN _).set1 _ _⟩
set_option maxHeartbeats 400000 in
theorem takes_no {i c : Nat} (r : PR w b s i er pl v d) (hi : i ≤ s.size) (h : is (bs s) i c = false) :
    Calls Tryd.prog 56 #[.pointer (some ⟨b, 0, none⟩), .int .u8 (c : Int)] w fun e w' => e = .returned (.bool false) ∧ ∃ m, w' = w.drewN m := by
  obtain ⟨c0, c1, c2, c3, c4, c5⟩ := r.cells
  rcases Nat.lt_or_ge i s.size with hlt | hge
  · have hE := fun m => ended_no (r.drewN m) hlt
    rw [is_of (by rw [bs_len]; exact hlt), at_bs s i hlt] at h
    have hi1 : (i : Int) < (s.size : Int) := by omega
    have hne : (((s[i].toNat : Nat) : Int) == (c : Int)) = false := by
      simp only [beq_eq_false_iff_ne] at h ⊢
      omega
    clear h
    go_enter Tryd.func56, Tryd.ntmps56
    go_wp2
    go_quiet ((go_at_call 37; exact Calls.quiet_of (hE _)))
    go_wp2
    go_ret
    exact ⟨rfl, _, rfl⟩
  · have hE := fun m => ended_yes (r.drewN m) (by omega)
    go_enter Tryd.func56, Tryd.ntmps56
    go_wp2
    go_quiet ((go_at_call 37; exact Calls.quiet_of (hE _)))
    go_wp2
    go_ret
    exact ⟨rfl, _, rfl⟩

theorem sees_one (t : List Nat) (i c : Nat) : seesB t i [c] = is t i c := by
  unfold seesB is
  congr 1
  by_cases h : at_ t i = c
  · simp [h]
  · rw [beq_eq_false_iff_ne.2 h]
    simp [h]
set_option maxHeartbeats 400000 in
theorem bnds_any {i : Nat} (r : PR w b s i er pl v d) (hi : i ≤ s.size) (hs : s.size ≤ 100000) : Calls Tryd.prog 80 #[.pointer (some ⟨b, 0, none⟩)] w fun e w' => e = .returned (.bool (is (bs s) i 123 && dig (bs s) (i + 1))) ∧ ∃ m, w' = w.drewN m := by
  obtain ⟨c0, c1, c2, c3, c4, c5⟩ := r.cells
  have hS := fun m => sees_any (r.drewN m) hi { data := #[123] }
  rw [show bs { data := #[123] } = [123] from rfl, sees_one] at hS
  cases hq : is (bs s) i 123 with
  | false =>
    rw [hq] at hS
    clear hq
    go_enter Tryd.func80, Tryd.ntmps80
    go_wp2
    go_quiet ((go_at_call 69; exact Calls.quiet_of (hS _)))
    go_wp2
    go_ret
    exact ⟨rfl, _, rfl⟩
  | true =>
    rw [hq] at hS
    obtain ⟨h1, -⟩ := is_lt hq
    rw [bs_len] at h1
    clear hq
    have hw : IntKind.i64.wrap ((i : Int) + 1) = (i : Int) + 1 := by rw [IntKind.wrap_i64]; omega
    by_cases h2 : i + 1 < s.size
    · have h2i : (i : Int) + 1 < (s.size : Int) := by omega
      have h3i : decide ((i : Int) + 1 < (s.size : Int)) = true := decide_eq_true h2i
      have h4i : (0 : Int) ≤ (i : Int) + 1 := by omega
      have h5i : ((i : Int) + 1).toNat = i + 1 := by omega
      have hD := fun w => pdigit_any s[i + 1].toNat w
      have HV : Hid (dig (bs s) (i + 1) = digitB s[i + 1].toNat) := by
        show _ = _
        unfold dig
        rw [decide_eq_true (by rw [bs_len]; exact h2), Bool.true_and, at_bs s (i + 1) h2]
      generalize digitB s[i + 1].toNat = q at *
      go_enter Tryd.func80, Tryd.ntmps80
      go_wp2
      go_quiet (first | (go_at_call 69; exact Calls.quiet_of (hS _)) | (go_at_call 72; exact Calls.quiet_of_same (hD _)))
      go_wp2
      go_ret
      exact ⟨by rw [HV.out]; rfl, _, rfl⟩
    · have h2i : ¬ (i : Int) + 1 < (s.size : Int) := by omega
      have h3i : decide ((i : Int) + 1 < (s.size : Int)) = false := decide_eq_false h2i
      have HV : Hid (dig (bs s) (i + 1) = false) := by
        show _ = _
        unfold dig
        rw [decide_eq_false (by rw [bs_len]; exact h2), Bool.false_and]
      go_enter Tryd.func80, Tryd.ntmps80
      go_wp2
      go_quiet ((go_at_call 69; exact Calls.quiet_of (hS _)))
      go_wp2
      go_ret
      exact ⟨by rw [HV.out]; rfl, _, rfl⟩
end

end Go.Proofs.YtghjkbjpdjlddaaDoor.Sy
