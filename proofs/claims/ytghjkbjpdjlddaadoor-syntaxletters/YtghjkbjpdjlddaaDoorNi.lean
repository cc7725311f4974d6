/- The reference's Name. -/
import Derived.Test.YtghjkbjpdjlddaaDoorNg
namespace Go.Proofs.YtghjkbjpdjlddaaDoor.Sy
open Go.RowKit

def okAt (s : List Nat) (j : Nat) : Bool := letterB (at_ s j) || (decide (0 < j) && digitB (at_ s j))
theorem nameAt_iff : ∀ (l : List Nat) (i : Nat), nameAt i l = true ↔ ∀ j, j < l.length → (letterB (l.getD j 0) || (decide (0 < i + j) && digitB (l.getD j 0))) = true
  | [], i => by simp [nameAt]
  | c :: r, i => by
    rw [nameAt, Bool.and_eq_true, nameAt_iff r (i + 1)]
    constructor
    · rintro ⟨h1, h2⟩ j hj
      cases j with
      | zero => exact h1
      | succ j =>
        have := h2 j (by simpa using hj)
        rw [show i + 1 + j = i + (j + 1) from by omega] at this
        exact this
    · intro h
      refine ⟨h 0 (by simp), fun j hj => ?_⟩
      have := h (j + 1) (by simpa using hj)
      rw [show i + (j + 1) = i + 1 + j from by omega] at this
      exact this
theorem name_all {s : List Nat} (h : ∀ j, j < s.length → okAt s j = true) : nameB s = (decide (1 ≤ s.length) && decide (s.length ≤ 32)) := by
  have : nameAt 0 s = true := (nameAt_iff s 0).2 fun j hj => by
    have := h j hj
    unfold okAt at_ at this
    rw [Nat.zero_add]
    exact this
  unfold nameB
  rw [this, Bool.and_true]
theorem name_not {s : List Nat} {j : Nat} (hj : j < s.length) (h : okAt s j = false) : nameB s = false := by
  have : nameAt 0 s = false := by
    cases hn : nameAt 0 s with
    | false => rfl
    | true =>
      have := (nameAt_iff s 0).1 hn j hj
      rw [Nat.zero_add] at this
      unfold okAt at_ at h
      rw [h] at this
      cases this
  unfold nameB
  rw [this, Bool.and_false]

set_option maxHeartbeats 400000 in
theorem rdigit_any (c : Nat) (w : World) : Calls Tryd.prog 77 #[.int .u8 (c : Int)] w fun e w' => e = .returned (.bool (digitB c)) ∧ w' = w := by
  by_cases h1 : 48 ≤ c
  · have h1i : (48 : Int) ≤ (c : Int) := by omega
    by_cases h2 : c ≤ 57
    · have HV : Hid (digitB c = true) := by show _ = _; simp [digitB, h1, h2]
      have h2i : (c : Int) ≤ 57 := by omega
      go_enter Tryd.func77, Tryd.ntmps77
      go_wp2
      go_ret
      exact ⟨by rw [HV.out]; rfl, rfl⟩
    · have HV : Hid (digitB c = false) := by show _ = _; simp [digitB]; omega
      have h2i : ¬ (c : Int) ≤ 57 := by omega
      go_enter Tryd.func77, Tryd.ntmps77
      go_wp2
      go_ret
      exact ⟨by rw [HV.out]; rfl, rfl⟩
  · have HV : Hid (digitB c = false) := by show _ = _; simp [digitB]; omega
    have h1i : ¬ (48 : Int) ≤ (c : Int) := by omega
    go_enter Tryd.func77, Tryd.ntmps77
    go_wp2
    go_ret
    exact ⟨by rw [HV.out]; rfl, rfl⟩
set_option maxHeartbeats 400000 in
theorem rletter_any (c : Nat) (w : World) : Calls Tryd.prog 76 #[.int .u8 (c : Int)] w fun e w' => e = .returned (.bool (letterB c)) ∧ w' = w := by
  by_cases h1 : 97 ≤ c
  · have h1i : (97 : Int) ≤ (c : Int) := by omega
    by_cases h2 : c ≤ 122
    · have h2i : (c : Int) ≤ 122 := by omega
      have HV : Hid (letterB c = true) := by show _ = _; simp [letterB]; omega
      go_enter Tryd.func76, Tryd.ntmps76
      go_wp2
      go_ret
      exact ⟨by rw [HV.out]; rfl, rfl⟩
    · have h2i : ¬ (c : Int) ≤ 122 := by omega
      have h3i : (65 : Int) ≤ (c : Int) := by omega
      have h4i : ¬ (c : Int) ≤ 90 := by omega
      have h5i : ((c : Int) == 95) = false := by simp; omega
      have HV : Hid (letterB c = false) := by show _ = _; simp [letterB]; omega
      go_enter Tryd.func76, Tryd.ntmps76
      go_wp2
      go_ret
      exact ⟨by rw [HV.out]; rfl, rfl⟩
  · have h1i : ¬ (97 : Int) ≤ (c : Int) := by omega
    by_cases h3 : 65 ≤ c
    · have h3i : (65 : Int) ≤ (c : Int) := by omega
      by_cases h4 : c ≤ 90
      · have h4i : (c : Int) ≤ 90 := by omega
        have HV : Hid (letterB c = true) := by show _ = _; simp [letterB]; omega
        go_enter Tryd.func76, Tryd.ntmps76
        go_wp2
        go_ret
        exact ⟨by rw [HV.out]; rfl, rfl⟩
      · have h4i : ¬ (c : Int) ≤ 90 := by omega
        by_cases h5 : c = 95
        · subst h5
          go_enter Tryd.func76, Tryd.ntmps76
          go_wp2
          go_ret
          exact ⟨rfl, rfl⟩
        · have h5i : ((c : Int) == 95) = false := by simp; omega
          have HV : Hid (letterB c = false) := by show _ = _; simp [letterB]; omega
          go_enter Tryd.func76, Tryd.ntmps76
          go_wp2
          go_ret
          exact ⟨by rw [HV.out]; rfl, rfl⟩
    · have h3i : ¬ (65 : Int) ≤ (c : Int) := by omega
      have h5i : ((c : Int) == 95) = false := by simp; omega
      have HV : Hid (letterB c = false) := by show _ = _; simp [letterB]; omega
      go_enter Tryd.func76, Tryd.ntmps76
      go_wp2
      go_ret
      exact ⟨by rw [HV.out]; rfl, rfl⟩

set_option maxRecDepth 100000 in
set_option maxHeartbeats 1000000 in
theorem rname_any (s : ByteArray) (w : World) (hs : s.size ≤ maxLen) : Calls Tryd.prog 62 #[.string s] w fun e w' => e = .returned (.bool (nameB (bs s))) ∧ w' = w := by
  unfold maxLen at hs
  have hbl := bs_len s
  go_enter Tryd.func62, Tryd.ntmps62
  go_wp2
  go_loopw [3] (fun i wr => wr = w ∧ ∃ k : Nat, k ≤ s.size ∧ i = .int .i64 k ∧ ∀ j, j < k → okAt (bs s) j = true) (fun i _ => s.size - (intOf i).toNat)
  case atStart => exact ⟨rfl, 0, Nat.zero_le _, rfl, fun j hj => by omega⟩
  case round =>
    obtain ⟨rfl, k, hk0, rfl, hok⟩ := hrel
    by_cases hlt : k < s.size
    · have hki : (k : Int) < (s.size : Int) := by omega
      have hak := at_bs s k hlt
      have hl1 := fun w => rletter_any (s[k].toNat) w
      have hd1 := fun w => rdigit_any (s[k].toNat) w
      have HNX : Hid (okAt (bs s) k = true → ∀ j, j < k + 1 → okAt (bs s) j = true) := fun h j hj => by
        rcases Nat.lt_or_ge j k with h2 | h2
        · exact hok j h2
        · rw [show j = k from by omega]; exact h
      have HNO : Hid (okAt (bs s) k = false → nameB (bs s) = false) := fun h => name_not (by rw [hbl]; exact hlt) h
      have HOK : Hid (okAt (bs s) k = (letterB s[k].toNat || (decide (0 < k) && digitB s[k].toNat))) := by show _ = _; unfold okAt; rw [hak]
      clear hok hak
      generalize letterB s[k].toNat = lt at *
      generalize digitB s[k].toNat = dg at *
      go_wp2_with fail
      refine (hl1 _).mono ?_
      rintro e w2 ⟨rfl, rfl⟩
      cases lt with
      | true =>
        go_wp2
        exact ⟨⟨trivial, k + 1, by omega, rfl, HNX.out (by rw [HOK.out]; rfl)⟩, by simp [intOf]; omega⟩
      | false =>
        by_cases hz : k = 0
        · subst hz
          go_wp2
          go_ret
          exact ⟨by rw [HNO.out (by rw [HOK.out]; rfl)]; rfl, rfl⟩
        · have hzi : ((k : Int) == 0) = false := by simp; omega
          have hzd : decide (0 < k) = true := decide_eq_true (by omega)
          rw [hzd] at HOK
          clear hzd
          go_wp2_with fail
          refine (hd1 _).mono ?_
          rintro e w2 ⟨rfl, rfl⟩
          cases dg with
          | true =>
            go_wp2
            exact ⟨⟨trivial, k + 1, by omega, rfl, HNX.out (by rw [HOK.out]; rfl)⟩, by simp [intOf]; omega⟩
          | false =>
            go_wp2
            go_ret
            exact ⟨by rw [HNO.out (by rw [HOK.out]; rfl)]; rfl, rfl⟩
    · have hk : k = s.size := by omega
      subst hk
      have HV := hidd (name_all (s := bs s) (fun j hj => hok j (by rw [hbl] at hj; exact hj)))
      rw [hbl] at HV
      clear hok hbl
      by_cases h1 : 1 ≤ s.size
      · have h1i : (1 : Int) ≤ (s.size : Int) := by omega
        by_cases h2 : s.size ≤ 32
        · have h2i : decide ((s.size : Int) ≤ 32) = true := decide_eq_true (by omega)
          rw [decide_eq_true h1, decide_eq_true h2] at HV
          go_wp2
          go_ret
          exact ⟨by rw [HV.out]; rfl, rfl⟩
        · have h2i : decide ((s.size : Int) ≤ 32) = false := decide_eq_false (by omega)
          rw [decide_eq_true h1, decide_eq_false h2] at HV
          go_wp2
          go_ret
          exact ⟨by rw [HV.out]; rfl, rfl⟩
      · have h1i : ¬ (1 : Int) ≤ (s.size : Int) := by omega
        rw [decide_eq_false h1] at HV
        go_wp2
        go_ret
        exact ⟨by rw [HV.out]; rfl, rfl⟩

end Go.Proofs.YtghjkbjpdjlddaaDoor.Sy
