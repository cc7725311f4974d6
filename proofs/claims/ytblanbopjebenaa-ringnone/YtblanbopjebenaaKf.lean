/- The law RingNone. -/
import Derived.Test.YtblanbopjebenaaKe
namespace Go.Proofs.Ytblanbopjebenaa
open Go.RowKit


set_option maxRecDepth 100000 in
set_option maxHeartbeats 2000000 in
theorem none_core (m : Int) (A : Option Addr) (n c : Nat) (xs : List Int) (w : World) (hX0 : Bts w w.heap.size A xs) (lc : n ≤ c) (mc : n ≤ maxLen) (el : Hid (xs.length = min n 200)) (lx : xs.length ≤ 1000000) :
    Calls Try.prog 6 #[.int .i64 m, .slice A n c] w fun e w' => e = .returned (.bool true) ∧ Below w.heap.size w w' := by
  have hm : (1 ≤ m ∧ m ≤ 4096) ∨ m < 1 ∨ m > 4096 := by omega
  rcases hm with ⟨m1, m2⟩ | m1 | m1
  · obtain ⟨k, rfl⟩ : ∃ k : Nat, m = k := ⟨m.toNat, by omega⟩
    go_enter Try.func6, Try.ntmps6
    go_wp2_with fail
    refine (shown_any _).mono ?_
    rintro e w1 ⟨rfl, b1⟩
    go_wp2_with fail
    refine (new_any k w1 (by omega) (by omega)).mono ?_
    rintro e w2 ⟨rfl, -, b2⟩
    have D := b1.trans (b2.mono b1.size)
    have hX := hX0.below D
    go_wp2_with fail
    refine (few_any A n c _ mc lc).mono ?_
    rintro e w3 ⟨rfl, rfl⟩
    rw [← el.out]
    go_wp2
    go_loopw [10, 40] (fun _ i wr => wr = w3 ∧ ∃ k : Nat, k ≤ xs.length ∧ i = .int .i64 k) (fun _ i _ => xs.length - (intOf i).toNat)
    case atStart => exact ⟨rfl, 0, Nat.zero_le _, rfl⟩
    case round =>
      obtain ⟨rfl, k, hk0, rfl⟩ := hrel
      by_cases hlt : k < xs.length
      · obtain ⟨g, off, rfl, hg, cx, x0, x1⟩ := hX.at_ hlt
        generalize xs.getD k 0 = x at *
        go_wp2_with fail
        refine (does_nil _ x x0 x1).mono ?_
        rintro e w4 ⟨rfl, rfl⟩
        go_wp2
        exact ⟨⟨trivial, k + 1, by omega, rfl⟩, by simp [intOf]; omega⟩
      · have hk : k = xs.length := by omega
        subst hk
        go_wp2_with fail
        refine (min_nil _).mono ?_
        rintro e w4 ⟨rfl, rfl⟩
        go_wp2_with fail
        refine (max_nil _).mono ?_
        rintro e w4 ⟨rfl, rfl⟩
        go_wp2_with fail
        refine (len_nil _).mono ?_
        rintro e w4 ⟨rfl, rfl⟩
        go_wp2_with fail
        refine (list_nil _).mono ?_
        rintro e w4 ⟨rfl, rfl⟩
        go_wp2_with fail
        refine (work_nil _).mono ?_
        rintro e w4 ⟨rfl, rfl⟩
        go_wp2
        go_ret
        exact ⟨rfl, D⟩
  all_goals
    go_enter Try.func6, Try.ntmps6
    go_wp2_with fail
    refine (shown_any _).mono ?_
    rintro e w1 ⟨rfl, D⟩
    go_wp2_with fail
    refine (new_bad m w1 (by omega)).mono ?_
    rintro e w2 ⟨rfl, rfl⟩
    have hX := hX0.below D
    go_wp2_with fail
    refine (few_any A n c _ mc lc).mono ?_
    rintro e w3 ⟨rfl, rfl⟩
    rw [← el.out]
    go_wp2
    go_loopw [10, 40] (fun _ i wr => wr = w3 ∧ ∃ k : Nat, k ≤ xs.length ∧ i = .int .i64 k) (fun _ i _ => xs.length - (intOf i).toNat)
    case atStart => exact ⟨rfl, 0, Nat.zero_le _, rfl⟩
    case round =>
      obtain ⟨rfl, k, hk0, rfl⟩ := hrel
      by_cases hlt : k < xs.length
      · obtain ⟨g, off, rfl, hg, cx, x0, x1⟩ := hX.at_ hlt
        generalize xs.getD k 0 = x at *
        go_wp2_with fail
        refine (does_nil _ x x0 x1).mono ?_
        rintro e w4 ⟨rfl, rfl⟩
        go_wp2
        exact ⟨⟨trivial, k + 1, by omega, rfl⟩, by simp [intOf]; omega⟩
      · have hk : k = xs.length := by omega
        subst hk
        go_wp2_with fail
        refine (min_nil _).mono ?_
        rintro e w4 ⟨rfl, rfl⟩
        go_wp2_with fail
        refine (max_nil _).mono ?_
        rintro e w4 ⟨rfl, rfl⟩
        go_wp2_with fail
        refine (len_nil _).mono ?_
        rintro e w4 ⟨rfl, rfl⟩
        go_wp2_with fail
        refine (list_nil _).mono ?_
        rintro e w4 ⟨rfl, rfl⟩
        go_wp2_with fail
        refine (work_nil _).mono ?_
        rintro e w4 ⟨rfl, rfl⟩
        go_wp2
        go_ret
        exact ⟨rfl, D⟩

theorem none_any (m : Int) (A : Option Addr) (c : Nat) (l : List Int) (w : World) (hS : Bts w w.heap.size A l) (lc : l.length ≤ c) (mc : c ≤ maxLen) :
    Calls Try.prog 6 #[.int .i64 m, .slice A l.length c] w fun e w' => e = .returned (.bool true) ∧ Below w.heap.size w w' := by
  have el : (l.take 200).length = min l.length 200 := by rw [List.length_take]; omega
  exact none_core m A l.length c (l.take 200) w (hS.cut 200) lc (by omega) el (by omega)

end Go.Proofs.Ytblanbopjebenaa
