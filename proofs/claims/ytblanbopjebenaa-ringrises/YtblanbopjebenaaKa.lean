/- Counts: what Put and Inc make of a rising list, and how a ring keeps it. Plain numbers; nothing of the program. -/
import Derived.WalkKit
namespace Go.Proofs.Ytblanbopjebenaa

/-- Counts that rise, from 1 to n. -/
def Rise (n : Nat) (C : List Nat) : Prop := C.Pairwise (· < ·) ∧ ∀ x ∈ C, 1 ≤ x ∧ x ≤ n
def putL (C : List Nat) : List Nat := if C.head? = some 1 then C else 1 :: C
def incL (n : Nat) (C : List Nat) : List Nat := (C.map (· + 1)).filter fun x => decide (x ≤ n)

theorem rise_from (n : Nat) : ∀ (C : List Nat) (m : Nat), C.Pairwise (· < ·) → (∀ x ∈ C, m ≤ x ∧ x ≤ n) → C.length ≤ n + 1 - m
  | [], _, _, _ => Nat.zero_le _
  | x :: r, m, hp, hb => by
    have hx := hb x (by simp)
    have := rise_from n r (x + 1) (List.pairwise_cons.1 hp).2 fun y hy => ⟨(List.pairwise_cons.1 hp).1 y hy, (hb y (by simp [hy])).2⟩
    simp only [List.length_cons]
    omega
theorem rise_len {n : Nat} {C : List Nat} (h : Rise n C) : C.length ≤ n := by
  have := rise_from n C 1 h.1 h.2
  omega
theorem rise_nil (n : Nat) : Rise n [] := ⟨List.Pairwise.nil, by simp⟩
theorem rise_put {n : Nat} {C : List Nat} (hn : 1 ≤ n) (h : Rise n C) : Rise n (putL C) := by
  unfold putL
  split
  · exact h
  · rename_i hc
    refine ⟨List.pairwise_cons.2 ⟨fun y hy => ?_, h.1⟩, fun x hx => ?_⟩
    · cases C with
      | nil => cases hy
      | cons z r =>
        have hz : z ≠ 1 := fun e => hc (by simp [e])
        have hz1 := (h.2 z (by simp)).1
        rcases List.mem_cons.1 hy with rfl | hy
        · omega
        · have := (List.pairwise_cons.1 h.1).1 y hy
          omega
    · rcases List.mem_cons.1 hx with rfl | hx
      · omega
      · exact h.2 x hx
theorem rise_inc {n : Nat} {C : List Nat} (h : Rise n C) : Rise n (incL n C) := by
  unfold incL
  refine ⟨List.Pairwise.filter _ ?_, fun x hx => ?_⟩
  · rw [List.pairwise_map]
    exact h.1.imp fun h => by omega
  · rw [List.mem_filter, List.mem_map] at hx
    obtain ⟨⟨y, _, rfl⟩, hx⟩ := hx
    simp at hx
    omega
theorem inc_snoc {n : Nat} {D : List Nat} {x : Nat} (h : Rise n (D ++ [x])) : incL n (D ++ [x]) = D.map (· + 1) ++ if x < n then [x + 1] else [] := by
  unfold incL
  rw [List.map_append, List.filter_append]
  congr 1
  · rw [List.filter_eq_self]
    intro y hy
    obtain ⟨z, hz, rfl⟩ := List.mem_map.1 hy
    have h1 := (List.pairwise_append.1 h.1).2.2 z hz x (by simp)
    have h2 := (h.2 x (by simp)).2
    simp
    omega
  · by_cases hx : x < n
    · simp [hx]
      omega
    · simp [hx]
      omega
theorem inc_nil (n : Nat) : incL n [] = [] := rfl
theorem snoc_of {C : List Nat} (h : C ≠ []) : ∃ D x, C = D ++ [x] := ⟨C.dropLast, C.getLast h, (List.dropLast_concat_getLast h).symm⟩
/-- What Inc leaves when the greatest count stays. -/
theorem inc_keep {n : Nat} {C : List Nat} (h : Rise n C) (hl : C.getLastD 0 < n) : incL n C = C.map (· + 1) := by
  by_cases hc : C = []
  · subst hc; rfl
  · obtain ⟨D, x, rfl⟩ := snoc_of hc
    have hx : x < n := by simpa using hl
    rw [inc_snoc h, if_pos hx, List.map_append]
    rfl
/-- .. and when it goes. -/
theorem inc_drop {n : Nat} {D : List Nat} (h : Rise n (D ++ [n])) : incL n (D ++ [n]) = D.map (· + 1) := by
  rw [inc_snoc h, if_neg (by omega), List.append_nil]

theorem mod_ne (a d n : Nat) (h0 : 0 < d) (h1 : d < n) : (a + d) % n ≠ a % n := by
  intro e
  have := Nat.sub_mod_eq_zero_of_mod_eq e
  rw [show a + d - a = d from by omega, Nat.mod_eq_of_lt h1] at this
  omega

/-- How a row holds counts: of each the time at which it was put, the greatest first, round and round. -/
def Rep (n now old : Nat) (f : Nat → Int) (C : List Nat) : Prop := ∀ i, i < C.length → f ((old + (C.length - 1 - i)) % n) = (now : Int) + 1 - ((C.getD i 0 : Nat) : Int)

theorem rep_put {n now old : Nat} {f : Nat → Int} {C : List Nat} (hr : Rep n now old f C) (hl : C.length < n) : Rep n now old (fun i => if i = (old + C.length) % n then (now : Int) else f i) (1 :: C) := by
  intro i hi
  simp only [List.length_cons] at hi ⊢
  cases i with
  | zero =>
    rw [if_pos (by congr 1)]
    simp
  | succ i =>
    have hne : (old + (C.length + 1 - 1 - (i + 1))) % n ≠ (old + C.length) % n := by
      have := mod_ne (old + (C.length + 1 - 1 - (i + 1))) (i + 1) n (by omega) (by omega)
      rw [show old + (C.length + 1 - 1 - (i + 1)) + (i + 1) = old + C.length from by omega] at this
      exact fun e => this e.symm
    rw [if_neg hne]
    have := hr i (by omega)
    rw [show C.length - 1 - i = C.length + 1 - 1 - (i + 1) from by omega] at this
    rw [this]
    simp
theorem rep_inc {n now old : Nat} {f : Nat → Int} {C : List Nat} (hr : Rep n now old f C) : Rep n (now + 1) old f (C.map (· + 1)) := by
  intro i hi
  rw [List.length_map] at hi ⊢
  rw [hr i hi, List.getD_eq_getElem?_getD, List.getD_eq_getElem?_getD, List.getElem?_map, List.getElem?_eq_getElem hi]
  simp
  omega
theorem rep_drop {n now old : Nat} {f : Nat → Int} {D : List Nat} {x : Nat} (hr : Rep n now old f (D ++ [x])) : Rep n now ((old + 1) % n) f D := by
  intro i hi
  have h := hr i (by simp; omega)
  rw [List.length_append, List.length_singleton] at h
  rw [Nat.mod_add_mod, show old + 1 + (D.length - 1 - i) = old + (D.length + 1 - 1 - i) from by omega, h]
  congr 2
  rw [List.getD_eq_getElem?_getD, List.getD_eq_getElem?_getD, List.getElem?_append_left hi]
theorem rep_nil (n now old : Nat) (f : Nat → Int) : Rep n now old f [] := fun i hi => absurd hi (by simp)

theorem getD_last (C : List Nat) (h : C ≠ []) : C.getD (C.length - 1) 0 = C.getLastD 0 := by
  obtain ⟨D, x, rfl⟩ := snoc_of h
  simp
theorem getD_mem {C : List Nat} {i : Nat} (h : i < C.length) : C.getD i 0 ∈ C := by
  rw [List.getD_eq_getElem?_getD, List.getElem?_eq_getElem h]
  exact List.getElem_mem h

/-- An act: modulo 8 put, made one more, or let go of. -/
def actL (n : Nat) (a : Int) (C : List Nat) : List Nat := if a % 8 < 3 then putL C else if a % 8 < 7 then incL n C else []
theorem rise_act {n : Nat} {C : List Nat} {a : Int} (hn : 1 ≤ n) (h : Rise n C) : Rise n (actL n a C) := by
  unfold actL
  split
  · exact rise_put hn h
  · split
    · exact rise_inc h
    · exact rise_nil n

end Go.Proofs.Ytblanbopjebenaa
