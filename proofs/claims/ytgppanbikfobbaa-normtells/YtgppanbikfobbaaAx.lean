/- The landed Nullable. -/
import Derived.Test.YtgppanbikfobbaaAw
namespace Go.Proofs.Ytgppanbikfobbaa.Sy.Ap
open Go.RowKit
set_option maxRecDepth 100000
set_option linter.unusedVariables false

theorem its_nat {w : World} {B : Nat} {A : Option Addr} {l : List Nat} (h : Its w B A (l.map fun k : Nat => (k : Int))) {k : Nat} (hk : k < l.length) : ∃ g off, A = some ⟨g, off, none⟩ ∧ g < B ∧ w.cell? ⟨g, off + k, none⟩ = some (.int .i64 ((l.getD k 0 : Nat) : Int)) := by
  obtain ⟨g, off, h1, h2, h3⟩ := h.at_ (k := k) (by rw [List.length_map]; exact hk)
  refine ⟨g, off, h1, h2, ?_⟩
  rw [h3, List.getD_eq_getElem?_getD, List.getElem?_map, List.getElem?_eq_getElem hk, List.getD_eq_getElem?_getD, List.getElem?_eq_getElem hk]
  rfl
theorem any_false {l : List Nat} {p : Nat → Bool} (h : ∀ i, i < l.length → p (l.getD i 0) = false) : l.any p = false := by
  rw [List.any_eq_false]
  intro x hx
  obtain ⟨i, hi, rfl⟩ := List.getElem_of_mem hx
  have := h i hi
  rw [List.getD_eq_getElem?_getD, List.getElem?_eq_getElem hi] at this
  simp only [Option.getD_some] at this
  rw [this]
  exact Bool.false_ne_true
theorem any_true {l : List Nat} {p : Nat → Bool} {i : Nat} (hi : i < l.length) (h : p (l.getD i 0) = true) : l.any p = true := by
  rw [List.any_eq_true]
  refine ⟨l[i], List.getElem_mem hi, ?_⟩
  rw [List.getD_eq_getElem?_getD, List.getElem?_eq_getElem hi] at h
  exact h
set_option maxHeartbeats 400000 in
theorem idx1_any (A : Option Addr) (c : Nat) (l : List Nat) (ptr : Value) (p : Nat → Bool) (w : World) (hI : Its w w.heap.size A (l.map fun k : Nat => (k : Int))) (hl : l.length ≤ 1000000)
    (hcl : ∀ kid ∈ l, Calls Try.prog 48 #[.int .i64 ((kid : Nat) : Int), ptr] w fun e w' => e = .returned (.bool (p kid)) ∧ w' = w) :
    Calls Try.prog 60 #[.slice A l.length c, .func (.func 48) #[] #[ptr]] w fun e w' => ∃ r : Int, e = .returned (.int .i64 r) ∧ decide (0 ≤ r) = l.any p ∧ w' = w := by
  have HI := hidd hI
  have HC := hidd hcl
  clear hI hcl
  generalize hn : l.length = n at *
  have HN := hidd hn
  clear hn
  go_enter Try.func60, Try.ntmps60
  go_wp2
  go_loopw [8] (fun s8 wr => ∃ k : Nat, k ≤ n ∧ s8 = .int .i64 (k : Int) ∧ (∀ i, i < k → p (l.getD i 0) = false) ∧ wr = w) (fun s8 _ => n - (intOf s8).toNat)
  case atStart => exact ⟨0, Nat.zero_le _, rfl, fun i hi => absurd hi (Nat.not_lt_zero _), rfl⟩
  case round =>
    obtain ⟨k, hk0, rfl, hp, rfl⟩ := hrel
    have HP := hidd hp
    clear hp
    by_cases hlt : k < n
    · have hlt2 : k < l.length := by rw [HN.out]; exact hlt
      obtain ⟨g, off, rfl, hgl, hcell⟩ := its_nat HI.out hlt2
      have hki : (k : Int) < (n : Int) := by omega
      have hcl := HC.out (l.getD k 0) (by rw [List.getD_eq_getElem?_getD, List.getElem?_eq_getElem hlt2]; exact List.getElem_mem hlt2)
      have HY : Hid (p (l.getD k 0) = true → l.any p = true) := fun h => any_true hlt2 h
      generalize hd : l.getD k 0 = d at *
      have HD := hidd hd
      clear hd
      go_wp2_with fail
      refine hcl.mono ?_
      rintro e w1 ⟨rfl, rfl⟩
      cases hpd : p d with
      | true =>
        have HA := hidd (HY.out hpd)
        clear hcl hpd HY
        go_wp2
        go_ret
        exact ⟨(k : Int), rfl, by rw [HA.out]; exact decide_eq_true (by omega), rfl⟩
      | false =>
        have HQ : Hid (∀ i, i < k + 1 → p (l.getD i 0) = false) := fun i hi => by
          by_cases e : i = k
          · subst e; rw [HD.out]; exact hpd
          · exact HP.out i (by omega)
        clear hcl hpd HY
        go_wp2
        exact ⟨⟨k + 1, by omega, rfl, HQ.out, by trivial⟩, by simp [intOf]; omega⟩
    · have hke : k = n := by omega
      subst hke
      have HA := hidd (any_false (fun i hi => HP.out i (by rw [HN.out] at hi; exact hi)))
      go_wp2
      go_ret
      exact ⟨-1, rfl, by rw [HA.out]; rfl, rfl⟩
set_option maxHeartbeats 400000 in
theorem has1_any (A : Option Addr) (c : Nat) (l : List Nat) (ptr : Value) (p : Nat → Bool) (w : World) (hI : Its w w.heap.size A (l.map fun k : Nat => (k : Int))) (hl : l.length ≤ 1000000)
    (hcl : ∀ kid ∈ l, Calls Try.prog 48 #[.int .i64 ((kid : Nat) : Int), ptr] w fun e w' => e = .returned (.bool (p kid)) ∧ w' = w) :
    Calls Try.prog 47 #[.slice A l.length c, .func (.func 48) #[] #[ptr]] w fun e w' => e = .returned (.bool (l.any p)) ∧ w' = w := by
  have hi := idx1_any A c l ptr p w hI hl hcl
  clear hI hl hcl
  generalize l.length = n at *
  generalize l.any p = z at *
  go_enter Try.func47, Try.ntmps47
  go_wp2_with fail
  refine hi.mono ?_
  rintro e w1 ⟨r, rfl, hr, rfl⟩
  clear hi
  subst hr
  go_wp2
  go_ret
  first | exact ⟨rfl, rfl⟩ | (trace_state; exact ⟨by simp, rfl⟩)
set_option maxHeartbeats 400000 in
theorem idx2_any (A : Option Addr) (c : Nat) (l : List Nat) (ptr : Value) (p : Nat → Bool) (w : World) (hI : Its w w.heap.size A (l.map fun k : Nat => (k : Int))) (hl : l.length ≤ 1000000)
    (hcl : ∀ kid ∈ l, Calls Try.prog 49 #[.int .i64 ((kid : Nat) : Int), ptr] w fun e w' => e = .returned (.bool (p kid)) ∧ w' = w) :
    Calls Try.prog 60 #[.slice A l.length c, .func (.func 49) #[] #[ptr]] w fun e w' => ∃ r : Int, e = .returned (.int .i64 r) ∧ decide (0 ≤ r) = l.any p ∧ w' = w := by
  have HI := hidd hI
  have HC := hidd hcl
  clear hI hcl
  generalize hn : l.length = n at *
  have HN := hidd hn
  clear hn
  go_enter Try.func60, Try.ntmps60
  go_wp2
  go_loopw [8] (fun s8 wr => ∃ k : Nat, k ≤ n ∧ s8 = .int .i64 (k : Int) ∧ (∀ i, i < k → p (l.getD i 0) = false) ∧ wr = w) (fun s8 _ => n - (intOf s8).toNat)
  case atStart => exact ⟨0, Nat.zero_le _, rfl, fun i hi => absurd hi (Nat.not_lt_zero _), rfl⟩
  case round =>
    obtain ⟨k, hk0, rfl, hp, rfl⟩ := hrel
    have HP := hidd hp
    clear hp
    by_cases hlt : k < n
    · have hlt2 : k < l.length := by rw [HN.out]; exact hlt
      obtain ⟨g, off, rfl, hgl, hcell⟩ := its_nat HI.out hlt2
      have hki : (k : Int) < (n : Int) := by omega
      have hcl := HC.out (l.getD k 0) (by rw [List.getD_eq_getElem?_getD, List.getElem?_eq_getElem hlt2]; exact List.getElem_mem hlt2)
      have HY : Hid (p (l.getD k 0) = true → l.any p = true) := fun h => any_true hlt2 h
      generalize hd : l.getD k 0 = d at *
      have HD := hidd hd
      clear hd
      go_wp2_with fail
      refine hcl.mono ?_
      rintro e w1 ⟨rfl, rfl⟩
      cases hpd : p d with
      | true =>
        have HA := hidd (HY.out hpd)
        clear hcl hpd HY
        go_wp2
        go_ret
        exact ⟨(k : Int), rfl, by rw [HA.out]; exact decide_eq_true (by omega), rfl⟩
      | false =>
        have HQ : Hid (∀ i, i < k + 1 → p (l.getD i 0) = false) := fun i hi => by
          by_cases e : i = k
          · subst e; rw [HD.out]; exact hpd
          · exact HP.out i (by omega)
        clear hcl hpd HY
        go_wp2
        exact ⟨⟨k + 1, by omega, rfl, HQ.out, by trivial⟩, by simp [intOf]; omega⟩
    · have hke : k = n := by omega
      subst hke
      have HA := hidd (any_false (fun i hi => HP.out i (by rw [HN.out] at hi; exact hi)))
      go_wp2
      go_ret
      exact ⟨-1, rfl, by rw [HA.out]; rfl, rfl⟩
set_option maxHeartbeats 400000 in
theorem has2_any (A : Option Addr) (c : Nat) (l : List Nat) (ptr : Value) (p : Nat → Bool) (w : World) (hI : Its w w.heap.size A (l.map fun k : Nat => (k : Int))) (hl : l.length ≤ 1000000)
    (hcl : ∀ kid ∈ l, Calls Try.prog 49 #[.int .i64 ((kid : Nat) : Int), ptr] w fun e w' => e = .returned (.bool (p kid)) ∧ w' = w) :
    Calls Try.prog 47 #[.slice A l.length c, .func (.func 49) #[] #[ptr]] w fun e w' => e = .returned (.bool (l.any p)) ∧ w' = w := by
  have hi := idx2_any A c l ptr p w hI hl hcl
  clear hI hl hcl
  generalize l.length = n at *
  generalize l.any p = z at *
  go_enter Try.func47, Try.ntmps47
  go_wp2_with fail
  refine hi.mono ?_
  rintro e w1 ⟨r, rfl, hr, rfl⟩
  clear hi
  subst hr
  go_wp2
  go_ret
  first | exact ⟨rfl, rfl⟩ | (trace_state; exact ⟨by simp, rfl⟩)
set_option maxHeartbeats 400000 in
theorem cl1_any (kid q b N : Nat) (f : Nat → Bool) (w : World) (hq : w.cell? ⟨q, 0, none⟩ = some (.slice (some ⟨b, 0, none⟩) N N)) (hr : RowF w b 4 N (fun i => .bool (f i))) (hk : kid < N) (hN : N ≤ 1000000) :
    Calls Try.prog 48 #[.int .i64 (kid : Int), .pointer (some ⟨q, 0, none⟩)] w fun e w' => e = .returned (.bool (!(f kid))) ∧ w' = w := by
  have hc := hr.at_ kid hk
  have hki : (kid : Int) < (N : Int) := by omega
  clear hr
  go_enter Try.func48, Try.ntmps48
  go_wp2
  go_ret
  exact ⟨rfl, rfl⟩
set_option maxHeartbeats 400000 in
theorem cl2_any (kid q b N : Nat) (f : Nat → Bool) (w : World) (hq : w.cell? ⟨q, 0, none⟩ = some (.slice (some ⟨b, 0, none⟩) N N)) (hr : RowF w b 4 N (fun i => .bool (f i))) (hk : kid < N) (hN : N ≤ 1000000) :
    Calls Try.prog 49 #[.int .i64 (kid : Int), .pointer (some ⟨q, 0, none⟩)] w fun e w' => e = .returned (.bool (f kid)) ∧ w' = w := by
  have hc := hr.at_ kid hk
  have hki : (kid : Int) < (N : Int) := by omega
  clear hr
  go_enter Try.func49, Try.ntmps49
  go_wp2
  go_ret
  exact ⟨rfl, rfl⟩
end Go.Proofs.Ytgppanbikfobbaa.Sy.Ap
