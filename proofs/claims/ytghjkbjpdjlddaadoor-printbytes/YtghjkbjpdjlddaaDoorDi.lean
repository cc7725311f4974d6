/- PrintBytes. -/
import Derived.Test.YtghjkbjpdjlddaaDoorDh
import Derived.Test.YtghjkbjpdjlddaaDoorDj
namespace Go.Proofs.YtghjkbjpdjlddaaDoor.Sy.Pn
open Go.RowKit
set_option maxRecDepth 100000
set_option linter.unusedVariables false

theorem byteT_inj {a b : Nat} (ha : a < 256) (hb : b < 256) (h : byteT a = byteT b) : a = b := by
  have h1 := byteT_one a ha
  rw [h, byteT_one b hb] at h1
  cases h1
  rfl
theorem str_ne {x y : ByteArray} (h : ¬ x = y) : (x.toList == y.toList) = false := by
  rw [beq_eq_false_iff_ne]
  intro e
  rw [ByteArray.toList_eq, ByteArray.toList_eq] at e
  exact h (ByteArray.ext (Array.toList_inj.mp e))
def plainB (a : Nat) : Bool := (decide (97 ≤ a) && decide (a ≤ 122)) || (decide (65 ≤ a) && decide (a ≤ 90)) || (decide (48 ≤ a) && decide (a ≤ 57))
theorem byteT_plain : ∀ c, c < 256 → plainB c = true → byteT c = [c] := by decide +kernel
set_option maxHeartbeats 4000000 in
theorem bytes_any (a c : Nat) (w : World) (ha : a ≤ 255) (hc : c ≤ 255) (hT : TV w) :
    Calls Tryd.prog 5 #[.int .u8 (a : Int), .int .u8 (c : Int)] w fun e w' => e = .returned (.bool true) ∧ Below w.heap.size w w' := by
  obtain ⟨f1, f2, f3⟩ := byteT_fit a (by omega)
  have HPL := hidd (byteT_plain a (by omega))
  have HIN : Hid (byteT a = byteT c → a = c) := byteT_inj (by omega) (by omega)
  go_enter Tryd.func5, Tryd.ntmps5
  go_wp2_with fail
  refine (shown5_any w hT).mono ?_
  rintro e w1 ⟨rfl, b1⟩
  go_wp2_with fail
  refine (pbyte_any a ha _).mono ?_
  rintro e w2 ⟨x, rfl, hx, b2⟩
  go_wp2_with fail
  refine (pbyte_any c hc _).mono ?_
  rintro e w3 ⟨y, rfl, hy, b3⟩
  have HB := hidd (b1.trans ((b2.trans (b3.mono b2.size)).mono b1.size))
  have hxl : x.size = (byteT a).length := by rw [← bs_len, hx]
  have hx1 : 1 ≤ x.size := by omega
  have hx4 : x.size ≤ 4 := by omega
  have HXB : Hid (∀ i, (h : i < x.size) → 32 ≤ x[i].toNat ∧ x[i].toNat ≤ 126) := fun i h => by
    have h1 := f1 (at_ (bs x) i) (by
      rw [← hx]
      unfold at_
      rw [List.getD_eq_getElem?_getD, List.getElem?_eq_getElem (by rw [bs_len]; exact h)]
      exact List.getElem_mem _)
    rw [at_bs x i h] at h1
    exact h1
  have HXX := hidd hx
  have HYY := hidd hy
  clear b1 b2 b3 hxl f1 f2 f3 hx hy hT
  go_wp2
  go_loopw [17] (fun s17 wr => ∃ k : Nat, s17 = .int .i64 (k : Int) ∧ k ≤ x.size ∧ wr = w3) (fun s17 _ => x.size - (intOf s17).toNat)
  case atStart => exact ⟨0, rfl, Nat.zero_le _, rfl⟩
  case round =>
    obtain ⟨k, rfl, hk, rfl⟩ := hrel
    by_cases hlt : k < x.size
    · have hki : (k : Int) < (x.size : Int) := by omega
      obtain ⟨q1, q2⟩ := HXB.out k hlt
      have g1 : ¬ ((x[k].toNat : Int) < 32) := by omega
      have g2 : ¬ ((126 : Int) < (x[k].toNat : Int)) := by omega
      clear q1 q2
      go_wp2
      exact ⟨⟨k + 1, rfl, by omega, by first | trivial | rfl⟩, by simp [intOf]; omega⟩
    · have hke : k = x.size := by omega
      clear HXB hke
      have hkf : ¬ ((k : Int) < (x.size : Int)) := by omega
      have hx1i : (1 : Int) ≤ (x.size : Int) := by omega
      have hx4i : (x.size : Int) ≤ 4 := by omega
      clear hlt hk
      by_cases p1 : 97 ≤ a ∧ a ≤ 122
      · have k0 : (97 : Int) ≤ (a : Int) := by omega
        have k1 : (a : Int) ≤ 122 := by omega
        have hpl : byteT a = [a] := HPL.out (by unfold plainB; simp; omega)
        have hcv := str_bytes (some ⟨wr.heap.size, 0, none⟩) 1 [(a : Int)] _ (bts_one wr (a : Int) (by omega) (by omega))
        rw [show strOfNums [(a : Int)] = x from bs_inj (by rw [bs_nums _ (by simp; omega), HXX.out, hpl]; simp)] at hcv
        change (convert 22 9 (.slice (some ⟨wr.heap.size, 0, none⟩) 1 1)).run Tryd.prog (wr.alloc (.cells #[.int .u8 (a : Int)] 5)) = _ at hcv
        clear hpl
        by_cases hac : a = c
        · subst hac
          have hxy : y = x := bs_inj (by rw [HXX.out, HYY.out])
          subst hxy
          clear HIN HYY HPL
          go_wp2
          go_ret
          exact ⟨rfl, (HB.out.alloc HB.out.size _)⟩
        · have hne0 : ¬ x = y := fun e => hac (HIN.out (by rw [← HXX.out, ← HYY.out, e]))
          have hne := str_ne hne0
          clear hne0
          have hai : ((a : Int) == (c : Int)) = false := by simp; omega
          clear hac HIN
          go_wp2
          go_ret
          exact ⟨rfl, (HB.out.alloc HB.out.size _)⟩
      by_cases p2 : 65 ≤ a ∧ a ≤ 90
      · have k0 : ¬ (97 : Int) ≤ (a : Int) := by omega
        have k1 : (65 : Int) ≤ (a : Int) := by omega
        have k2 : (a : Int) ≤ 90 := by omega
        have hpl : byteT a = [a] := HPL.out (by unfold plainB; simp; omega)
        have hcv := str_bytes (some ⟨wr.heap.size, 0, none⟩) 1 [(a : Int)] _ (bts_one wr (a : Int) (by omega) (by omega))
        rw [show strOfNums [(a : Int)] = x from bs_inj (by rw [bs_nums _ (by simp; omega), HXX.out, hpl]; simp)] at hcv
        change (convert 22 9 (.slice (some ⟨wr.heap.size, 0, none⟩) 1 1)).run Tryd.prog (wr.alloc (.cells #[.int .u8 (a : Int)] 5)) = _ at hcv
        clear hpl
        by_cases hac : a = c
        · subst hac
          have hxy : y = x := bs_inj (by rw [HXX.out, HYY.out])
          subst hxy
          clear HIN HYY HPL
          go_wp2
          go_ret
          exact ⟨rfl, (HB.out.alloc HB.out.size _)⟩
        · have hne0 : ¬ x = y := fun e => hac (HIN.out (by rw [← HXX.out, ← HYY.out, e]))
          have hne := str_ne hne0
          clear hne0
          have hai : ((a : Int) == (c : Int)) = false := by simp; omega
          clear hac HIN
          go_wp2
          go_ret
          exact ⟨rfl, (HB.out.alloc HB.out.size _)⟩
      by_cases p3 : 48 ≤ a ∧ a ≤ 57
      · have k0 : ¬ (97 : Int) ≤ (a : Int) := by omega
        have k1 : ¬ (65 : Int) ≤ (a : Int) := by omega
        have k2 : (48 : Int) ≤ (a : Int) := by omega
        have k3 : (a : Int) ≤ 57 := by omega
        have hpl : byteT a = [a] := HPL.out (by unfold plainB; simp; omega)
        have hcv := str_bytes (some ⟨wr.heap.size, 0, none⟩) 1 [(a : Int)] _ (bts_one wr (a : Int) (by omega) (by omega))
        rw [show strOfNums [(a : Int)] = x from bs_inj (by rw [bs_nums _ (by simp; omega), HXX.out, hpl]; simp)] at hcv
        change (convert 22 9 (.slice (some ⟨wr.heap.size, 0, none⟩) 1 1)).run Tryd.prog (wr.alloc (.cells #[.int .u8 (a : Int)] 5)) = _ at hcv
        clear hpl
        by_cases hac : a = c
        · subst hac
          have hxy : y = x := bs_inj (by rw [HXX.out, HYY.out])
          subst hxy
          clear HIN HYY HPL
          go_wp2
          go_ret
          exact ⟨rfl, (HB.out.alloc HB.out.size _)⟩
        · have hne0 : ¬ x = y := fun e => hac (HIN.out (by rw [← HXX.out, ← HYY.out, e]))
          have hne := str_ne hne0
          clear hne0
          have hai : ((a : Int) == (c : Int)) = false := by simp; omega
          clear hac HIN
          go_wp2
          go_ret
          exact ⟨rfl, (HB.out.alloc HB.out.size _)⟩
      by_cases p4 : 122 < a
      · have k0 : (97 : Int) ≤ (a : Int) := by omega
        have k1 : ¬ (a : Int) ≤ 122 := by omega
        have k2 : (65 : Int) ≤ (a : Int) := by omega
        have k3 : ¬ (a : Int) ≤ 90 := by omega
        have k4 : (48 : Int) ≤ (a : Int) := by omega
        have k5 : ¬ (a : Int) ≤ 57 := by omega
        by_cases hac : a = c
        · subst hac
          have hxy : y = x := bs_inj (by rw [HXX.out, HYY.out])
          subst hxy
          clear HIN HYY HPL
          go_wp2
          go_ret
          exact ⟨rfl, HB.out⟩
        · have hne0 : ¬ x = y := fun e => hac (HIN.out (by rw [← HXX.out, ← HYY.out, e]))
          have hne := str_ne hne0
          clear hne0
          have hai : ((a : Int) == (c : Int)) = false := by simp; omega
          clear hac HIN
          go_wp2
          go_ret
          exact ⟨rfl, HB.out⟩
      by_cases p5 : 91 ≤ a
      · have k0 : ¬ (97 : Int) ≤ (a : Int) := by omega
        have k1 : (65 : Int) ≤ (a : Int) := by omega
        have k2 : ¬ (a : Int) ≤ 90 := by omega
        have k3 : (48 : Int) ≤ (a : Int) := by omega
        have k4 : ¬ (a : Int) ≤ 57 := by omega
        by_cases hac : a = c
        · subst hac
          have hxy : y = x := bs_inj (by rw [HXX.out, HYY.out])
          subst hxy
          clear HIN HYY HPL
          go_wp2
          go_ret
          exact ⟨rfl, HB.out⟩
        · have hne0 : ¬ x = y := fun e => hac (HIN.out (by rw [← HXX.out, ← HYY.out, e]))
          have hne := str_ne hne0
          clear hne0
          have hai : ((a : Int) == (c : Int)) = false := by simp; omega
          clear hac HIN
          go_wp2
          go_ret
          exact ⟨rfl, HB.out⟩
      by_cases p6 : 58 ≤ a
      · have k0 : ¬ (97 : Int) ≤ (a : Int) := by omega
        have k1 : ¬ (65 : Int) ≤ (a : Int) := by omega
        have k2 : (48 : Int) ≤ (a : Int) := by omega
        have k3 : ¬ (a : Int) ≤ 57 := by omega
        by_cases hac : a = c
        · subst hac
          have hxy : y = x := bs_inj (by rw [HXX.out, HYY.out])
          subst hxy
          clear HIN HYY HPL
          go_wp2
          go_ret
          exact ⟨rfl, HB.out⟩
        · have hne0 : ¬ x = y := fun e => hac (HIN.out (by rw [← HXX.out, ← HYY.out, e]))
          have hne := str_ne hne0
          clear hne0
          have hai : ((a : Int) == (c : Int)) = false := by simp; omega
          clear hac HIN
          go_wp2
          go_ret
          exact ⟨rfl, HB.out⟩
      · have k0 : ¬ (97 : Int) ≤ (a : Int) := by omega
        have k1 : ¬ (65 : Int) ≤ (a : Int) := by omega
        have k2 : ¬ (48 : Int) ≤ (a : Int) := by omega
        by_cases hac : a = c
        · subst hac
          have hxy : y = x := bs_inj (by rw [HXX.out, HYY.out])
          subst hxy
          clear HIN HYY HPL
          go_wp2
          go_ret
          exact ⟨rfl, HB.out⟩
        · have hne0 : ¬ x = y := fun e => hac (HIN.out (by rw [← HXX.out, ← HYY.out, e]))
          have hne := str_ne hne0
          clear hne0
          have hai : ((a : Int) == (c : Int)) = false := by simp; omega
          clear hac HIN
          go_wp2
          go_ret
          exact ⟨rfl, HB.out⟩
end Go.Proofs.YtghjkbjpdjlddaaDoor.Sy.Pn
