/- The law SyntaxName, by what Parse and Name owe. -/
import Derived.Test.YtghjkbjpdjlddaaDoorNf
namespace Go.Proofs.YtghjkbjpdjlddaaDoor.Sy
open Go.RowKit

/-- What Name owes. -/
def NameC : Prop := ∀ (s : ByteArray) (w : World), s.size ≤ 100000 → Calls Tryd.prog 59 #[.string s] w fun e w' => e = .returned (.bool (nameB (bs s))) ∧ Below w.heap.size w w'

/-- The law's name: bytes without braces, that begin with no digit. -/
def keepN (b : List Nat) (c : Nat) : Bool := !(c == 125) && (!b.isEmpty || decide (c < 48) || decide (57 < c))
def accN (s : List Nat) : Nat → List Nat
  | 0 => []
  | k + 1 => if keepN (accN s k) (at_ s k) then accN s k ++ [at_ s k] else accN s k
theorem accN_len (s : List Nat) : ∀ k, (accN s k).length ≤ k
  | 0 => Nat.le_refl _
  | k + 1 => by
    unfold accN
    have := accN_len s k
    split
    · simp; omega
    · omega
theorem accN_fit (s : List Nat) : ∀ k, (∀ c ∈ accN s k, c ≠ 125) ∧ (∀ c r, accN s k = c :: r → digitB c = false)
  | 0 => ⟨fun _ hc => (by cases hc), fun _ _ h => (by cases h)⟩
  | k + 1 => by
    obtain ⟨h1, h2⟩ := accN_fit s k
    unfold accN
    by_cases hk : keepN (accN s k) (at_ s k) = true
    · rw [if_pos hk]
      unfold keepN at hk
      simp only [Bool.and_eq_true, Bool.not_eq_true', beq_eq_false_iff_ne, Bool.or_eq_true, decide_eq_true_eq] at hk
      refine ⟨fun c hc => ?_, fun c r h => ?_⟩
      · rcases List.mem_append.1 hc with hc | hc
        · exact h1 c hc
        · rw [List.mem_singleton] at hc
          subst hc
          exact hk.1
      · cases hb : accN s k with
        | nil =>
          rw [hb] at h hk
          simp at h
          rw [← h.1]
          unfold digitB
          simp at hk ⊢
          omega
        | cons d r' =>
          rw [hb] at h
          simp at h
          rw [← h.1]
          exact h2 d r' hb
    · rw [if_neg hk]
      exact ⟨h1, h2⟩
def toI (l : List Nat) : List Int := l.map fun c : Nat => (c : Int)
theorem toI_len (l : List Nat) : (toI l).length = l.length := by simp [toI]
theorem toI_nat (l : List Nat) : (toI l).map Int.toNat = l := by simp [toI, List.map_map, Function.comp_def]
theorem accN_byte (b : ByteArray) (k : Nat) : ∀ x ∈ toI (accN (bs b) k), 0 ≤ x ∧ x ≤ 255 := by
  have h : ∀ k, ∀ c ∈ accN (bs b) k, c < 256 := by
    intro k
    induction k with
    | zero => intro c hc; cases hc
    | succ k ih =>
      intro c hc
      unfold accN at hc
      split at hc
      · rcases List.mem_append.1 hc with hc | hc
        · exact ih c hc
        · rw [List.mem_singleton] at hc
          subst hc
          exact at_lt (bs_lt b) k
      · exact ih c hc
  intro x hx
  obtain ⟨c, hc, rfl⟩ := List.mem_map.1 hx
  have := h k c hc
  omega
def refG (b : ByteArray) : Gd := ⟨6, noB, [], 0, 0, b⟩
theorem gn_ref (b : ByteArray) : GN1 (refG b) (ndRef (bs b)) := ⟨rfl, fun _ _ => rfl, rfl, rfl, rfl, rfl⟩
theorem ref_row (b : ByteArray) : (nodesC [(refG b, none, 0)]).toArray = #[.int .u8 6, .int .u64 0, .int .u64 0, .int .u64 0, .int .u64 0, .slice none 0 0, .int .i64 0, .int .i64 0, .string b] := by
  simp only [nodesC, gdL, refG, List.flatMap_cons, List.flatMap_nil, List.append_nil, W_zero, List.length_nil]

theorem own_snoc {w : World} {b : Nat} {v : Value} {l : List Nat} {c n : Nat} (h : w.ownsRow b 5 1 v (n + 1) (u8s (toI l) ++ [.int .u8 ((c : Nat) : Int)])) (hn : n = l.length := by rfl) : w.ownsRow b 5 1 v (toI (l ++ [c])).length (u8s (toI (l ++ [c]))) := by
  subst hn
  have e1 : (toI (l ++ [c])).length = l.length + 1 := by simp [toI]
  have e2 : u8s (toI (l ++ [c])) = u8s (toI l) ++ [.int .u8 ((c : Nat) : Int)] := by simp [toI, u8s]
  rw [e1, e2]
  exact h


end Go.Proofs.YtghjkbjpdjlddaaDoor.Sy
