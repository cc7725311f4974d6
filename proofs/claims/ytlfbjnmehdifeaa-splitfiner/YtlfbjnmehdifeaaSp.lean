/- The ranges of a rising list of bytes: plain lists. -/
import Derived.Test.YtlfbjnmehdifeaaWd
namespace Go.Proofs.Ytlfbjnmehdifeaa

def spStep (out : List (Int × Int)) (b : Int) : List (Int × Int) :=
  match out.getLast? with
  | some (a, c) => if c + 1 = b then out.dropLast ++ [(a, b)] else out ++ [(b, b)]
  | none => [(b, b)]
def spansL (l : List Int) : List (Int × Int) := l.foldl spStep []

theorem spans_snoc (l : List Int) (b : Int) : spansL (l ++ [b]) = spStep (spansL l) b := by simp [spansL]
theorem step_last (init : List (Int × Int)) (a c b : Int) : spStep (init ++ [(a, c)]) b = if c + 1 = b then init ++ [(a, b)] else init ++ [(a, c)] ++ [(b, b)] := by
  unfold spStep
  rw [List.getLast?_append]
  simp
theorem spans_last (l : List Int) (h : l ≠ []) : ∃ init a, spansL l = init ++ [(a, l.getLast h)] := by
  obtain ⟨l', b, rfl⟩ : ∃ l' b, l = l' ++ [b] := ⟨l.dropLast, l.getLast h, (List.dropLast_concat_getLast h).symm⟩
  rw [spans_snoc, show (l' ++ [b]).getLast h = b from by simp]
  unfold spStep
  cases hh : (spansL l').getLast? with
  | none => exact ⟨[], b, rfl⟩
  | some x =>
    obtain ⟨a, c⟩ := x
    simp only
    split
    · exact ⟨_, a, rfl⟩
    · exact ⟨_, b, rfl⟩
theorem spans_take (l : List Int) (k : Nat) (h0 : 0 < k) (h : k ≤ l.length) : ∃ init a, spansL (l.take k) = init ++ [(a, l.getD (k - 1) 0)] := by
  have hne : l.take k ≠ [] := by
    intro e
    have := congrArg List.length e
    rw [List.length_take, Nat.min_eq_left h] at this
    exact absurd this (by simp; omega)
  obtain ⟨init, a, e⟩ := spans_last (l.take k) hne
  refine ⟨init, a, ?_⟩
  rw [e, List.getLast_eq_getElem, List.getElem_take, List.getD_eq_getElem?_getD, List.getElem?_eq_getElem (by omega)]
  simp [Nat.min_eq_left h]
theorem spans_len (l : List Int) : (spansL l).length ≤ l.length := by
  have key : ∀ n, ∀ l : List Int, l.length = n → (spansL l).length ≤ n := by
    intro n
    induction n with
    | zero => intro l hl; rw [List.eq_nil_of_length_eq_zero hl]; exact Nat.le_refl _
    | succ n ih =>
      intro l hl
      have hne : l ≠ [] := fun e => by subst e; simp at hl
      obtain ⟨l', b, rfl⟩ : ∃ l' b, l = l' ++ [b] := ⟨l.dropLast, l.getLast hne, (List.dropLast_concat_getLast hne).symm⟩
      have hl' : l'.length = n := by simpa using hl
      have := ih l' hl'
      rw [spans_snoc]
      unfold spStep
      split
      · split
        · simp; omega
        · simp; omega
      · simp
  exact key _ l rfl

/-- The bytes of a set rise, and are bytes. -/
theorem lst_rises (p : Nat → Bool) (n : Nat) : (lstB p n).Pairwise (· < ·) := by
  unfold lstB
  rw [List.pairwise_map]
  refine (List.Pairwise.filter p List.pairwise_lt_range).imp ?_
  intro a b h
  omega
theorem lst_mem (p : Nat → Bool) (n : Nat) (x : Int) : x ∈ lstB p n ↔ ∃ b : Nat, x = b ∧ b < n ∧ p b = true := by
  unfold lstB
  simp only [List.mem_map, List.mem_filter, List.mem_range]
  constructor
  · rintro ⟨b, ⟨h1, h2⟩, rfl⟩; exact ⟨b, rfl, h1, h2⟩
  · rintro ⟨b, rfl, h1, h2⟩; exact ⟨b, ⟨h1, h2⟩, rfl⟩
theorem lst_byte (p : Nat → Bool) : ∀ x ∈ lstB p 256, 0 ≤ x ∧ x ≤ 255 := by
  intro x hx
  obtain ⟨b, rfl, h, _⟩ := (lst_mem p 256 x).1 hx
  omega
theorem rise_at (l : List Int) (h : l.Pairwise (· < ·)) (k : Nat) (h0 : 0 < k) (hk : k < l.length) : l.getD (k - 1) 0 < l.getD k 0 := by
  rw [List.getD_eq_getElem?_getD, List.getD_eq_getElem?_getD, List.getElem?_eq_getElem (by omega), List.getElem?_eq_getElem hk]
  exact List.pairwise_iff_getElem.1 h (k - 1) k (by omega) hk (by omega)

/-- At each place: nothing yet, or a last range that ends below the next byte. -/
theorem spans_case (l : List Int) (hr : l.Pairwise (· < ·)) (hb : ∀ x ∈ l, 0 ≤ x ∧ x ≤ 255) (k : Nat) (hk : k < l.length) :
    (spansL (l.take k) = [] ∧ k = 0) ∨ ∃ init a c, spansL (l.take k) = init ++ [(a, c)] ∧ 0 ≤ c ∧ c < l.getD k 0 ∧ c = l.getD (k - 1) 0 ∧ 0 < k := by
  rcases Nat.eq_zero_or_pos k with h0 | h0
  · subst h0; exact .inl ⟨rfl, rfl⟩
  · obtain ⟨init, a, e⟩ := spans_take l k h0 (by omega)
    refine .inr ⟨init, a, _, e, ?_, rise_at l hr k h0 hk, rfl, h0⟩
    have hm : l.getD (k - 1) 0 ∈ l := by rw [List.getD_eq_getElem?_getD, List.getElem?_eq_getElem (by omega)]; exact List.getElem_mem _
    exact (hb _ hm).1
theorem spans_next (l : List Int) (k : Nat) (hk : k < l.length) : spansL (l.take (k + 1)) = spStep (spansL (l.take k)) (l.getD k 0) := by
  rw [List.take_succ_eq_append_getElem hk, spans_snoc, List.getD_eq_getElem?_getD, List.getElem?_eq_getElem hk]; rfl

def prV (l : List (Int × Int)) : List Value := l.flatMap fun x => [.int .u8 x.1, .int .u8 x.2]
theorem prV_append (l m : List (Int × Int)) : prV (l ++ m) = prV l ++ prV m := by simp [prV]
theorem prV_len (l : List (Int × Int)) : (prV l).length = l.length * 2 := by
  induction l with
  | nil => rfl
  | cons x r ih => simp only [prV, List.flatMap_cons, List.length_append] at ih ⊢; rw [ih]; simp; omega
theorem prV_one (a b : Int) : prV [(a, b)] = [.int .u8 a, .int .u8 b] := rfl
theorem prV_at (l : List (Int × Int)) (i : Nat) (h : i < l.length) : (prV l)[i * 2]? = some (.int .u8 (l.getD i (0, 0)).1) ∧ (prV l)[i * 2 + 1]? = some (.int .u8 (l.getD i (0, 0)).2) := by
  induction l generalizing i with
  | nil => simp at h
  | cons x r ih =>
    have e : prV (x :: r) = [.int .u8 x.1, .int .u8 x.2] ++ prV r := rfl
    rw [e]
    cases i with
    | zero => exact ⟨rfl, rfl⟩
    | succ i =>
      have := ih i (by simpa using h)
      rw [List.getElem?_append_right (by simp; omega), List.getElem?_append_right (by simp; omega)]
      rw [show (i + 1) * 2 - [Value.int .u8 x.1, Value.int .u8 x.2].length = i * 2 from by simp; omega, show (i + 1) * 2 + 1 - [Value.int .u8 x.1, Value.int .u8 x.2].length = i * 2 + 1 from by simp; omega]
      exact this
theorem prV_last (init : List (Int × Int)) (a c b : Int) : (prV (init ++ [(a, c)])).set (init.length * 2 + 1) (.int .u8 b) = prV (init ++ [(a, b)]) := by
  rw [prV_append, prV_append, prV_one, prV_one, ← prV_len, List.set_append_right _ _ (by omega)]
  rw [show (prV init).length + 1 - (prV init).length = 1 from by omega]
  rfl
theorem prV_lastAt (init : List (Int × Int)) (a c : Int) : (prV (init ++ [(a, c)]))[init.length * 2 + 1]? = some (.int .u8 c) := by
  rw [prV_append, prV_one, ← prV_len, List.getElem?_append_right (by omega)]
  rw [show (prV init).length + 1 - (prV init).length = 1 from by omega]
  rfl

end Go.Proofs.Ytlfbjnmehdifeaa
