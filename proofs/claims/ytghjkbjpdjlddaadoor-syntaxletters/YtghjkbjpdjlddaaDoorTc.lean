/- The landed reader: digits, what stands up to a brace, an escape. -/
import Derived.Test.YtghjkbjpdjlddaaDoorTb
import Derived.Lib.IndexBytes
namespace Go.Proofs.YtghjkbjpdjlddaaDoor.Sy
open Go.RowKit
set_option maxRecDepth 100000

/-- Where a parser is. -/
def atOf (w : World) (b : Nat) : Nat := match w.cell? ⟨b, 1, none⟩ with
  | some (.int _ k) => k.toNat
  | _ => 0
section
variable {w w' : World} {b : Nat} {s : ByteArray} {er pl : Int} {v : Value} {d : Int}
theorem PR.atOf {i : Nat} (r : PR w b s i er pl v d) : atOf w b = i := by
  obtain ⟨c0, c1, c2, c3, c4, c5⟩ := r.cells
  unfold Sy.atOf
  rw [c1]
  simp
theorem digEnd_eq {t : List Nat} {k : Nat} : ∀ (f i : Nat), i ≤ k → (∀ x, i ≤ x → x < k → dig t x = true) → dig t k = false → k - i ≤ f → digEnd t f i = k
  | 0, i, h, _, _, hf => by unfold digEnd; omega
  | f + 1, i, h, h1, h2, hf => by
    unfold digEnd
    rcases Nat.eq_or_lt_of_le h with e | e
    · subst e
      rw [h2]
      rfl
    · rw [h1 i (Nat.le_refl _) e]
      simp only [if_true]
      exact digEnd_eq f (i + 1) e (fun x h3 h4 => h1 x (by omega) h4) h2 (by omega)
theorem ex_bs (s : ByteArray) (i j : Nat) : bs (s.extract i j) = cut (bs s) i j := by
  unfold bs cut
  rw [← List.map_drop, ← List.map_take]
  congr 1
  rw [ByteArray.data_extract, Array.toList_extract]

set_option maxHeartbeats 400000 in
theorem fail_end {i : Nat} (r : PR w b s i er pl v d) (hi : i = s.size) (e : Int) : Calls Tryd.prog 109 #[.pointer (some ⟨b, 0, none⟩), .int .i64 e] w fun en w' => en = .returned (.bool false) ∧ PR w' b s i 40 i v d ∧ Touch b b w w' := by
  subst hi
  go_enter Tryd.func109, Tryd.ntmps109
  go_wp2_with fail
  refine (ended_yes r rfl).mono ?_
  rintro e w1 ⟨rfl, m, rfl⟩
  have R := r.drewN m
  have T := (Touch.refl b b w).drewN m
  generalize w.drewN m = w1 at *
  obtain ⟨c0, c1, c2, c3, c4, c5⟩ := R.cells
  go_wp2_with fail
  refine (fail_any R 40 s.size).mono ?_
  rintro e w2 ⟨rfl, R2, T2⟩
  go_wp2
  go_ret
  exact ⟨rfl, R2, T.trans T2⟩
set_option maxHeartbeats 400000 in
theorem fail_here {i : Nat} (r : PR w b s i er pl v d) (hi : i < s.size) (e : Int) : Calls Tryd.prog 109 #[.pointer (some ⟨b, 0, none⟩), .int .i64 e] w fun en w' => en = .returned (.bool false) ∧ PR w' b s i e i v d ∧ Touch b b w w' := by
  go_enter Tryd.func109, Tryd.ntmps109
  go_wp2_with fail
  refine (ended_no r hi).mono ?_
  rintro e w1 ⟨rfl, m, rfl⟩
  have R := r.drewN m
  have T := (Touch.refl b b w).drewN m
  generalize w.drewN m = w1 at *
  obtain ⟨c0, c1, c2, c3, c4, c5⟩ := R.cells
  go_wp2_with fail
  refine (fail_any R _ i).mono ?_
  rintro e w2 ⟨rfl, R2, T2⟩
  go_wp2
  go_ret
  exact ⟨rfl, R2, T.trans T2⟩

set_option maxRecDepth 100000 in
set_option maxHeartbeats 1000000 in
theorem pdigits_any {i : Nat} (r : PR w b s i er pl v d) (hi : i ≤ s.size) (hs : s.size ≤ 100000) :
    Calls Tryd.prog 108 #[.pointer (some ⟨b, 0, none⟩)] w fun e w' => ∃ j, digEnd (bs s) (bs s).length i = j ∧ i ≤ j ∧ j ≤ s.size ∧ e = .returned (.string (s.extract i j)) ∧ PR w' b s j er pl v d ∧ Touch b b w w' := by
  have hbl := bs_len s
  obtain ⟨c0, c1, c2, c3, c4, c5⟩ := r.cells
  go_enter Tryd.func108, Tryd.ntmps108
  go_wp2
  clear c0 c1 c2 c3 c4 c5
  go_loopw [8] (fun _ wr => ∃ k : Nat, i ≤ k ∧ k ≤ s.size ∧ (∀ x, i ≤ x → x < k → dig (bs s) x = true) ∧ PR wr b s k er pl v d ∧ Touch b b w wr) (fun _ wr => s.size - atOf wr b)
  case atStart => exact ⟨i, Nat.le_refl _, hi, fun x h1 h2 => by omega, r, Touch.refl _ _ _⟩
  case round =>
    obtain ⟨k, h1, h2, h3, R, T⟩ := hrel
    obtain ⟨c0, c1, c2, c3, c4, c5⟩ := R.cells
    have ht := R.thawed
    have hao := hidd R.atOf
    have H3 := hidd h3
    clear h3
    rcases Nat.lt_or_ge k s.size with hlt | hge
    · have hE := fun m => ended_no (R.drewN m) hlt
      have hk1 : (k : Int) < (s.size : Int) := by omega
      have hD := fun w => pdigit_any s[k].toNat w
      have HV : Hid (dig (bs s) k = digitB s[k].toNat) := by
        show _ = _
        unfold dig
        rw [decide_eq_true (by rw [hbl]; exact hlt), Bool.true_and, at_bs s k hlt]
      generalize digitB s[k].toNat = q at *
      cases q with
      | true =>
        go_wp2
        go_quiet (first | (go_at_call 37; exact Calls.quiet_of (hE _)) | (go_at_call 72; exact Calls.quiet_of_same (hD _)))
        go_wp2
        rename_i nq
        have R2 := (R.drewN nq).atTo ((k + 1 : Nat) : Int)
        refine ⟨⟨k + 1, by omega, hlt, fun x h4 h5 => ?_, R2, (T.drewN _).set1 _ _⟩, ?_⟩
        · rcases Nat.lt_or_ge x k with h6 | h6
          · exact H3.out x h4 h6
          · rw [show x = k from by omega]; exact HV.out
        · have e := R2.atOf
          rw [Int.natCast_succ] at e
          rw [hao.out, e]
          omega
      | false =>
        go_wp2
        go_quiet (first | (go_at_call 37; exact Calls.quiet_of (hE _)) | (go_at_call 72; exact Calls.quiet_of_same (hD _)))
        go_wp2
        have hik : (i : Int) ≤ (k : Int) := by omega
        go_quiet (fail)
        go_wp2
        go_ret
        exact ⟨k, digEnd_eq _ _ h1 H3.out HV.out (by omega), h1, h2, rfl, (R.drewN _).drewN _, (T.drewN _).drewN _⟩
    · have hk : k = s.size := by omega
      subst hk
      have hE := fun m => ended_yes (R.drewN m) rfl
      have hik : (i : Int) ≤ (s.size : Int) := by omega
      go_wp2
      go_quiet ((go_at_call 37; exact Calls.quiet_of (hE _)))
      go_wp2
      go_quiet (fail)
      go_wp2
      go_ret
      refine ⟨s.size, digEnd_eq _ _ h1 H3.out ?_ (by omega), h1, h2, rfl, (R.drewN _).drewN _, (T.drewN _).drewN _⟩
      unfold dig
      rw [decide_eq_false (by rw [hbl]; omega), Bool.false_and]
end

end Go.Proofs.YtghjkbjpdjlddaaDoor.Sy
