/- The landed parser: a name, and how often something is repeated. -/
import Derived.Test.YtghjkbjpdjlddaaDoorTn
namespace Go.Proofs.YtghjkbjpdjlddaaDoor.Sy
open Go.RowKit
set_option maxRecDepth 100000
set_option linter.unusedVariables false

set_option maxHeartbeats 400000 in
theorem pletter_any (c : Nat) (w : World) : Calls Tryd.prog 73 #[.int .u8 (c : Int)] w fun e w' => e = .returned (.bool (letterB c)) ∧ w' = w := by
  by_cases h1 : 97 ≤ c
  · have h1i : (97 : Int) ≤ (c : Int) := by omega
    by_cases h2 : c ≤ 122
    · have h2i : (c : Int) ≤ 122 := by omega
      have HV : Hid (letterB c = true) := by show _ = _; simp [letterB]; omega
      go_enter Tryd.func73, Tryd.ntmps73
      go_wp2
      go_ret
      exact ⟨by rw [HV.out]; rfl, rfl⟩
    · have h2i : ¬ (c : Int) ≤ 122 := by omega
      have h3i : (65 : Int) ≤ (c : Int) := by omega
      have h4i : ¬ (c : Int) ≤ 90 := by omega
      have h5i : ((c : Int) == 95) = false := by simp; omega
      have HV : Hid (letterB c = false) := by show _ = _; simp [letterB]; omega
      go_enter Tryd.func73, Tryd.ntmps73
      go_wp2
      go_ret
      exact ⟨by rw [HV.out]; rfl, rfl⟩
  · have h1i : ¬ (97 : Int) ≤ (c : Int) := by omega
    by_cases h3 : 65 ≤ c
    · have h3i : (65 : Int) ≤ (c : Int) := by omega
      by_cases h4 : c ≤ 90
      · have h4i : (c : Int) ≤ 90 := by omega
        have HV : Hid (letterB c = true) := by show _ = _; simp [letterB]; omega
        go_enter Tryd.func73, Tryd.ntmps73
        go_wp2
        go_ret
        exact ⟨by rw [HV.out]; rfl, rfl⟩
      · have h4i : ¬ (c : Int) ≤ 90 := by omega
        by_cases h5 : c = 95
        · subst h5
          go_enter Tryd.func73, Tryd.ntmps73
          go_wp2
          go_ret
          exact ⟨rfl, rfl⟩
        · have h5i : ((c : Int) == 95) = false := by simp; omega
          have HV : Hid (letterB c = false) := by show _ = _; simp [letterB]; omega
          go_enter Tryd.func73, Tryd.ntmps73
          go_wp2
          go_ret
          exact ⟨by rw [HV.out]; rfl, rfl⟩
    · have h3i : ¬ (65 : Int) ≤ (c : Int) := by omega
      have h5i : ((c : Int) == 95) = false := by simp; omega
      have HV : Hid (letterB c = false) := by show _ = _; simp [letterB]; omega
      go_enter Tryd.func73, Tryd.ntmps73
      go_wp2
      go_ret
      exact ⟨by rw [HV.out]; rfl, rfl⟩

theorem digit_not_letter {c : Nat} (h : digitB c = true) : letterB c = false := by
  unfold digitB at h
  unfold letterB
  simp at h ⊢
  omega
set_option maxHeartbeats 1000000 in
theorem pname_same (s : ByteArray) (w : World) (hs : s.size ≤ maxLen) : Calls Tryd.prog 59 #[.string s] w fun e w' => e = .returned (.bool (nameB (bs s))) ∧ w' = w := by
  unfold maxLen at hs
  have hbl := bs_len s
  by_cases h1 : s.size < 1
  · have HV : Hid (nameB (bs s) = false) := by show _ = _; unfold nameB; rw [hbl, decide_eq_false (by omega)]; rfl
    have h1i : (s.size : Int) < 1 := by omega
    clear hbl
    go_enter Tryd.func59, Tryd.ntmps59
    go_wp2
    go_ret
    exact ⟨by rw [HV.out]; rfl, rfl⟩
  · have h1i : ¬ (s.size : Int) < 1 := by omega
    by_cases h2 : 32 < s.size
    · have HV : Hid (nameB (bs s) = false) := by show _ = _; unfold nameB; rw [hbl, decide_eq_false (show ¬ s.size ≤ 32 from by omega)]; simp
      have h2i : decide ((32 : Int) < (s.size : Int)) = true := decide_eq_true (by omega)
      clear hbl
      go_enter Tryd.func59, Tryd.ntmps59
      go_wp2
      go_ret
      exact ⟨by rw [HV.out]; rfl, rfl⟩
    · have h2i : decide ((32 : Int) < (s.size : Int)) = false := decide_eq_false (by omega)
      have h0 : 0 < s.size := by omega
      have h0i : (0 : Int) < (s.size : Int) := by omega
      have hd0 := fun w => pdigit_any (s[0].toNat) w
      have ha0 := at_bs s 0 h0
      cases hq : digitB s[0].toNat with
      | true =>
        rw [hq] at hd0
        have HV : Hid (nameB (bs s) = false) := name_not (j := 0) (by rw [hbl]; exact h0) (by unfold okAt; rw [ha0, digit_not_letter hq]; rfl)
        clear hbl hq ha0
        go_enter Tryd.func59, Tryd.ntmps59
        go_wp2_with fail
        refine (hd0 _).mono ?_
        rintro e w1 ⟨rfl, rfl⟩
        go_wp2
        go_ret
        exact ⟨by rw [HV.out]; rfl, rfl⟩
      | false =>
        rw [hq] at hd0
        have HQ := hidd hq
        have HA := hidd ha0
        have HBL := hidd hbl
        clear hq ha0 hbl
        go_enter Tryd.func59, Tryd.ntmps59
        go_wp2_with fail
        refine (hd0 _).mono ?_
        rintro e w1 ⟨rfl, rfl⟩
        clear hd0
        go_wp2
        go_loopw [19] (fun i wr => wr = w1 ∧ ∃ k : Nat, k ≤ s.size ∧ i = .int .i64 k ∧ ∀ j, j < k → okAt (bs s) j = true) (fun i _ => s.size - (intOf i).toNat)
        case atStart => exact ⟨rfl, 0, Nat.zero_le _, rfl, fun j hj => by omega⟩
        case round =>
          obtain ⟨rfl, k, hk0, rfl, hok⟩ := hrel
          by_cases hlt : k < s.size
          · have hki : (k : Int) < (s.size : Int) := by omega
            have hak := at_bs s k hlt
            have hl1 := fun w => pletter_any (s[k].toNat) w
            have hd1 := fun w => pdigit_any (s[k].toNat) w
            have HNX : Hid (okAt (bs s) k = true → ∀ j, j < k + 1 → okAt (bs s) j = true) := fun h j hj => by
              rcases Nat.lt_or_ge j k with h2 | h2
              · exact hok j h2
              · rw [show j = k from by omega]; exact h
            have HNO : Hid (okAt (bs s) k = false → nameB (bs s) = false) := fun h => name_not (by rw [HBL.out]; exact hlt) h
            have HOK : Hid (okAt (bs s) k = (letterB s[k].toNat || digitB s[k].toNat)) := by
              show _ = _
              unfold okAt
              rw [hak]
              by_cases hz : k = 0
              · subst hz
                rw [HQ.out]
                simp
              · rw [decide_eq_true (by omega), Bool.true_and]
            clear hok hak
            generalize letterB s[k].toNat = lt at *
            generalize digitB s[k].toNat = dg at *
            go_wp2_with fail
            refine (hd1 _).mono ?_
            rintro e w2 ⟨rfl, rfl⟩
            cases dg with
            | true =>
              go_wp2
              exact ⟨⟨trivial, k + 1, by omega, rfl, HNX.out (by rw [HOK.out]; simp)⟩, by simp [intOf]; omega⟩
            | false =>
              go_wp2_with fail
              refine (hl1 _).mono ?_
              rintro e w2 ⟨rfl, rfl⟩
              cases lt with
              | true =>
                go_wp2
                exact ⟨⟨trivial, k + 1, by omega, rfl, HNX.out (by rw [HOK.out]; rfl)⟩, by simp [intOf]; omega⟩
              | false =>
                go_wp2
                go_ret
                exact ⟨by rw [HNO.out (by rw [HOK.out]; rfl)]; rfl, rfl⟩
          · have hk : k = s.size := by omega
            subst hk
            have HV := hidd (name_all (s := bs s) (fun j hj => hok j (by rw [HBL.out] at hj; exact hj)))
            rw [HBL.out, decide_eq_true (show 1 ≤ s.size from h0), decide_eq_true (show s.size ≤ 32 from by omega)] at HV
            clear hok
            go_wp2
            go_ret
            exact ⟨by rw [HV.out]; rfl, rfl⟩
theorem nameC : NameC := fun s w hs => (pname_same s w (by unfold maxLen; omega)).mono fun _ _ h => ⟨h.1, by rw [h.2]; exact Below.refl _ _⟩

set_option maxHeartbeats 400000 in
theorem clone_any (t : ByteArray) (w : World) (hs : t.size ≤ 100000) : Calls Tryd.prog 107 #[.string t] w fun e w' => e = .returned (.string t) ∧ Below w.heap.size w w' := by
  go_enter Tryd.func107, Tryd.ntmps107
  go_wp2_with fail
  refine (Tryd.stringslite_Clone t _ (by omega)).mono ?_
  rintro e w1 ⟨rfl, b1⟩
  go_wp2
  go_ret
  exact ⟨rfl, b1⟩
def nameR (t : List Nat) (i : Nat) : Except Bad (Nd × Nat) := match name_ t i with | .error e => .error e | .ok (nm, j) => .ok (ndRef nm, j)
theorem ref_lit (q : ByteArray) : (gdL (refG q) none 0).toArray = #[.int .u8 6, .int .u64 0, .int .u64 0, .int .u64 0, .int .u64 0, .slice none 0 0, .int .i64 0, .int .i64 0, .string q] := by
  simp only [gdL, refG, W_zero, List.length_nil]
section
variable {w w' : World} {b : Nat} {s : ByteArray} {v : Value} {d : Int} {l : List NR}
set_option maxHeartbeats 1000000 in
theorem ref_any {i : Nat} (p : PS w b s i 0 0 d v l) (hi : i < s.size) (hs : s.size ≤ 100000) (hl : l.length ≤ 100000) :
    Calls Tryd.prog 89 #[.pointer (some ⟨b, 0, none⟩)] w fun e w' => GotL w b s d v l (nameR (bs s) i) e w' := by
  have hbl := bs_len s
  obtain ⟨c0, c1, c2, c3, c4, c5⟩ := p.pr.cells
  have ht := p.pr.thawed
  have R1 := p.pr.atTo ((i : Int) + 1)
  have T1 := (Touch.refl b b w).set1 1 (.int .i64 ((i : Int) + 1))
  go_enter Tryd.func89, Tryd.ntmps89
  obtain ⟨a0, a1, a2, a3, a4, a5⟩ := R1.cells
  go_upto_region 2 with fail
  generalize w.setCell ⟨b, 1, none⟩ (.int .i64 ((i : Int) + 1)) = w1 at *
  rw [show (i : Int) + 1 = ((i + 1 : Nat) : Int) from by omega] at R1
  clear c0 c1 c2 c3 c4 c5 ht
  go_wp2_with fail
  clear a0 a1 a2 a3 a4 a5
  refine (upto_any R1 hi hs).mono ?_
  rintro e w2 ⟨T2, hu⟩
  have T12 := T1.trans T2
  clear T1 T2 R1
  rcases hu with ⟨rfl, hb1, R2⟩ | ⟨j, hj, hj1, hj2, rfl, R2⟩
  · have HR : Hid (nameR (bs s) i = .error (40, s.size)) := by show _ = _; unfold nameR name_; simp only [if_pos hb1]; rw [hbl]
    clear hb1 hbl
    go_wp2
    go_ret2
    rw [HR.out]
    exact ⟨⟨_, rfl⟩, i + 1, v, d, R2, Fr.of T12 v⟩
  · have hnb := ex_bs s (i + 1) j
    have hsz : (s.extract (i + 1) j).size ≤ 100000 := by rw [ByteArray.size_extract]; omega
    have hnr : nameR (bs s) i = if nameB (bs (s.extract (i + 1) j)) then .ok (ndRef (bs (s.extract (i + 1) j)), j + 1) else .error (41, i + 1) := by
      unfold nameR name_
      simp only [hj]
      rw [if_neg (by rw [hbl]; omega), hnb]
      cases nameB (cut (bs s) (i + 1) j) <;> rfl
    clear hnb hj hbl
    generalize s.extract (i + 1) j = t at *
    have HNR := hidd hnr
    clear hnr
    go_wp2_with fail
    refine (pname_same t _ (by unfold maxLen; omega)).mono ?_
    rintro e w3 ⟨rfl, rfl⟩
    cases hq : nameB (bs t) with
    | false =>
      rw [hq] at HNR
      clear hq
      go_wp2_with fail
      refine (fail_any R2 41 _).mono ?_
      rintro e w4 ⟨rfl, R4, T4⟩
      have T := T12.trans T4
      clear T12 T4 R2
      go_wp2
      go_ret2
      rw [HNR.out]
      exact ⟨⟨_, rfl⟩, j + 1, v, d, R4, Fr.of T v⟩
    | true =>
      rw [hq] at HNR
      clear hq
      go_wp2_with fail
      refine (clone_any t _ hsz).mono ?_
      rintro e w4 ⟨rfl, b4⟩
      have R4 := R2.below b4 R2.lt
      have T4 := T12.below b4
      have p4 := p.read T4 R4
      have f4 := Fr.of T4 v
      have ha := Ad.add_any p4 (refG t) none 0 (fun h => absurd rfl h) hl
      rw [ref_lit] at ha
      clear R2 T12 b4 R4 T4 p4
      go_wp2_with fail
      refine ha.mono ?_
      rintro e w5 ⟨rfl, v', p5, f5⟩
      have HP := hidd p5
      have f := f4.trans f5
      clear ha p5 f4 f5
      go_wp2
      go_ret2
      rw [HNR.out]
      exact ⟨rfl, v', _, HP.out, gn_ref t, rfl, f⟩
end

end Go.Proofs.YtghjkbjpdjlddaaDoor.Sy
