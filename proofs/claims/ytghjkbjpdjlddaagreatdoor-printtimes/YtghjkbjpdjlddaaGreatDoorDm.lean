/- PrintTimes. -/
import Derived.Test.YtghjkbjpdjlddaaGreatDoorDl
import Derived.Test.YtghjkbjpdjlddaaGreatDoorM1
namespace Go.Proofs.YtghjkbjpdjlddaaGreatDoor.Sy.Pn.Tm
open Go.RowKit
set_option maxRecDepth 100000
set_option linter.unusedVariables false

/-! A row of bytes that is marked as text. -/
theorem freeze_heap (u : World) (g k : Nat) (C : Array Value) (e : TypeId) (m : Nat × Nat) (h : u.heap[g]? = some (.cells C e m)) : ∃ m', (u.freeze ⟨g, k, none⟩ 1).heap[g]? = some (.cells C e m') := by
  obtain ⟨lo, hi⟩ := m
  unfold World.freeze
  rw [if_neg (by decide)]
  refine ⟨if (lo == hi) = true then (k, k + 1) else (min lo k, max hi (k + 1)), ?_⟩
  simp [Array.getElem?_modify, h]
theorem freeze_far (u : World) (g k i : Nat) (hi : g ≠ i) : (u.freeze ⟨g, k, none⟩ 1).heap[i]? = u.heap[i]? := by
  unfold World.freeze
  rw [if_neg (by decide)]
  simp [Array.getElem?_modify, hi]
theorem freeze_size (u : World) (g k : Nat) : (u.freeze ⟨g, k, none⟩ 1).heap.size = u.heap.size := by
  unfold World.freeze
  rw [if_neg (by decide)]
  simp
theorem freeze_cell (u : World) (g k : Nat) (p : Addr) : (u.freeze ⟨g, k, none⟩ 1).cell? p = u.cell? p := by
  by_cases hp : g = p.block
  · subst hp
    unfold World.cell?
    cases hh : u.heap[p.block]? with
    | none =>
      have : (u.freeze ⟨p.block, k, none⟩ 1).heap[p.block]? = none := by
        rw [Array.getElem?_eq_none_iff] at hh ⊢
        rw [freeze_size]
        exact hh
      rw [this]
    | some o =>
      cases o with
      | cells C e m =>
        obtain ⟨m', h'⟩ := freeze_heap u p.block k C e m hh
        rw [h']
      | _ =>
        unfold World.freeze
        rw [if_neg (by decide)]
        simp [Array.getElem?_modify, hh]
  · unfold World.cell?
    rw [freeze_far u g k p.block hp]
theorem freeze_below (u : World) (g k B : Nat) (hB : B ≤ g) : Below B u (u.freeze ⟨g, k, none⟩ 1) := by
  refine ⟨?_, ?_, ?_, by rw [freeze_size]; exact Nat.le_refl _, fun i hi => freeze_far u g k i (by omega)⟩ <;> (unfold World.freeze; rw [if_neg (by decide)])
theorem conv_mark (u : World) (g n c : Nat) (C : Array Value) (m : Nat × Nat) (h : u.heap[g]? = some (.cells C 5 m)) :
    (convert 40 40 (.slice (some ⟨g, 0, none⟩) n c)).run Tryz.prog u = .ok (.slice (some ⟨g, 0, none⟩) n c) (u.freeze ⟨g, C.size, none⟩ 1) := by
  have hsh : u.shape? g = some (5, C.size) := by unfold World.shape?; rw [h]
  simp [convert, run_underlying Tryz.underlying40, run_underlying Tryz.underlying5, markStringish, hsh]

def n36 (d : Option Nat) : Bool := !(d == some 36)
def Em (base : Nat) (d : Option Nat) (u u' : World) : Prop := if n36 d = true then Below u.heap.size u u' else ∃ g, base ≤ g ∧ u' = u.freeze ⟨g, 1, none⟩ 1
theorem eby {base : Nat} {d : Option Nat} {u u' : World} (hd : n36 d = true) (h : Below u.heap.size u u') : Em base d u u' := by
  unfold Em
  rw [if_pos hd]
  exact h
theorem Em.off {base : Nat} {d : Option Nat} {u u' : World} (h : Em base d u u') : Below u.heap.size u u' ∨ ∃ g, base ≤ g ∧ u' = u.freeze ⟨g, 1, none⟩ 1 := by
  unfold Em at h
  split at h
  · exact .inl h
  · exact .inr h
/-- The row of a text, made just now. -/
def Lit (base : Nat) (x : Int) (v : Value) (u : World) : Prop := ∃ g m, v = .slice (some ⟨g, 0, none⟩) 1 1 ∧ base ≤ g ∧ g < u.heap.size ∧ u.heap[g]? = some (.cells #[.int .u8 x] 5 m)
theorem Lit.keep {base : Nat} {x : Int} {v : Value} {d : Option Nat} {u u' : World} (h : Lit base x v u) (e : Em base d u u') : Lit base x v u' := by
  obtain ⟨g, m, h1, h2, h3, h4⟩ := h
  rcases e.off with hb | ⟨g', hg, rfl⟩
  · exact ⟨g, m, h1, h2, Nat.lt_of_lt_of_le h3 hb.size, (hb.block g h3).trans h4⟩
  · by_cases hgg : g' = g
    · subst hgg
      obtain ⟨m', h5⟩ := freeze_heap u g' 1 _ _ _ h4
      exact ⟨g', m', h1, h2, by rw [freeze_size]; exact h3, h5⟩
    · exact ⟨g, m, h1, h2, by rw [freeze_size]; exact h3, (freeze_far u g' 1 g hgg).trans h4⟩
theorem by_keep {base : Nat} {xs : List Int} {v : Value} {d : Option Nat} {u u' : World} (h : By xs v u) (e : Em base d u u') : By xs v u' := by
  rcases e.off with hb | ⟨g', hg, rfl⟩
  · exact h.below hb
  · obtain ⟨A, c, h1, hB⟩ := h
    refine ⟨A, c, h1, ?_⟩
    rw [freeze_size]
    exact hB.keep fun p hp => freeze_cell _ _ _ _
theorem Lit.by_ {base : Nat} {x : Int} {v : Value} {u : World} (h : Lit base x v u) (h0 : 0 ≤ x) (h1 : x ≤ 255) : By [x] v u := by
  obtain ⟨g, m, rfl, h2, h3, h4⟩ := h
  refine ⟨_, 1, rfl, by simp; omega, fun _ => ⟨g, 0, rfl, h3, fun i hi => ?_⟩⟩
  have : i = 0 := by simp at hi; omega
  subst this
  unfold World.cell?
  rw [h4]
  rfl
theorem rof_by {xs : List Int} {v : Value} {u : World} (hl : xs.length ≤ 1000000) (h : By xs v u) : Calls Tryz.prog 13 #[v] u fun e w' => e = .returned (.agg #[.int .u64 (W (inB xs) 0), .int .u64 (W (inB xs) 1), .int .u64 (W (inB xs) 2), .int .u64 (W (inB xs) 3)]) ∧ Below u.heap.size u w' := by
  obtain ⟨A, c, rfl, hB⟩ := h
  exact rof_any A c xs u hB hl
/-- Nodes that a slice of its own reads as. -/
def Ns (gs : List Gd) (v : Value) (u : World) : Prop := ∃ A c, v = .slice A gs.length c ∧ Nds u u.heap.size A gs
theorem Ns.below {gs : List Gd} {v : Value} {u u' : World} (h : Ns gs v u) (hb : Below u.heap.size u u') : Ns gs v u' := by
  obtain ⟨A, c, e, hN⟩ := h
  exact ⟨A, c, e, (hN.below hb).more hb.size⟩
end Go.Proofs.YtghjkbjpdjlddaaGreatDoor.Sy.Pn.Tm
