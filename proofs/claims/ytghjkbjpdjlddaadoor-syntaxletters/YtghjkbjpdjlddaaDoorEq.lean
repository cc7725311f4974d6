/- '==' and '!=' on sets, and on pairs of bytes: arrays of integers, item by item. -/
import Derived.Test.YtghjkbjpdjlddaaDoorRows
import Derived.Test.YtghjkbjpdjlddaaDoorMem
import Derived.ChangeKeysEq
import Derived.KernelRfl
namespace Go.Proofs.YtghjkbjpdjlddaaDoor
open Go.RowKit

theorem u64_info : (Tryd.prog.info? 26).isSome = true := by kernel_rfl
theorem u8_info : (Tryd.prog.info? 5).isSome = true := by kernel_rfl
theorem u64_cells : Tryd.prog.cellsOf 26 = 1 := by kernel_rfl
theorem u8_cells : Tryd.prog.cellsOf 5 = 1 := by kernel_rfl
theorem u64_plain : Tryd.prog.plainKey 26 = true := by kernel_rfl
theorem u8_plain : Tryd.prog.plainKey 5 = true := by kernel_rfl
theorem guard27 : Tryd.prog.eqGuardType Tryd.prog.depth 28 = false := by kernel_rfl
theorem guard42 : Tryd.prog.eqGuardType Tryd.prog.depth 60 = false := by kernel_rfl

theorem items_step {e : TypeId} {k k' : IntKind} (he : Tryd.prog.plainKey e = true) (hu : Tryd.prog.underlying e = some (.int k')) (d : Nat) (xs ys : Array Value) (i : Nat) (is : List Nat) (a b : Int) (w : World)
    (hx : xs[i]? = some (.int k a)) (hy : ys[i]? = some (.int k b)) :
    (Op.eqItems (d + 1) e 1 xs ys (i :: is)).run Tryd.prog w = if a = b then (Op.eqItems (d + 1) e 1 xs ys is).run Tryd.prog w else .ok false w := by
  simp only [Op.eqItems, Sem.run_bind, Nat.mul_one, run_part_plain w he hx, run_part_plain w he hy, Result.andThen_ok, run_equalIn_int w d e k k' a b hu]
  by_cases h : a = b
  · simp [h]
  · simp [h]

theorem run_eq42 (d : Nat) (a b c e : Int) (w : World) : (Op.equalIn (d + 2) 60 (.agg #[.int .u8 a, .int .u8 b]) (.agg #[.int .u8 c, .int .u8 e])).run Tryd.prog w = .ok (decide (a = c ∧ b = e)) w := by
  obtain ⟨i, hi⟩ := Option.isSome_iff_exists.1 u8_info
  rw [run_equalIn_array w (d + 1) _ _ Tryd.underlying60 hi, u8_cells, show List.range 2 = [0, 1] from rfl]
  rw [items_step u8_plain Tryd.underlying5 d _ _ 0 _ a c w rfl rfl, items_step u8_plain Tryd.underlying5 d _ _ 1 _ b e w rfl rfl]
  by_cases h1 : a = c
  · by_cases h2 : b = e
    · simp [h1, h2, Op.eqItems]
    · simp [h1, h2]
  · simp [h1]

theorem run_eq27 (d : Nat) (a0 a1 a2 a3 b0 b1 b2 b3 : Int) (w : World) : (Op.equalIn (d + 2) 28 (.agg #[.int .u64 a0, .int .u64 a1, .int .u64 a2, .int .u64 a3]) (.agg #[.int .u64 b0, .int .u64 b1, .int .u64 b2, .int .u64 b3])).run Tryd.prog w = .ok (decide (a0 = b0 ∧ a1 = b1 ∧ a2 = b2 ∧ a3 = b3)) w := by
  obtain ⟨i, hi⟩ := Option.isSome_iff_exists.1 u64_info
  rw [run_equalIn_array w (d + 1) _ _ Tryd.underlying28 hi, u64_cells, show List.range 4 = [0, 1, 2, 3] from rfl]
  rw [items_step u64_plain Tryd.underlying26 d _ _ 0 _ a0 b0 w rfl rfl, items_step u64_plain Tryd.underlying26 d _ _ 1 _ a1 b1 w rfl rfl, items_step u64_plain Tryd.underlying26 d _ _ 2 _ a2 b2 w rfl rfl, items_step u64_plain Tryd.underlying26 d _ _ 3 _ a3 b3 w rfl rfl]
  by_cases h0 : a0 = b0
  · by_cases h1 : a1 = b1
    · by_cases h2 : a2 = b2
      · by_cases h3 : a3 = b3
        · simp [h0, h1, h2, h3, Op.eqItems]
        · simp [h0, h1, h2, h3]
      · simp [h0, h1, h2]
    · simp [h0, h1]
  · simp [h0]

/-- What '==' on two sets tells: whether they have the same bytes. -/
def eqB (p q : Nat → Bool) : Bool := decide (W p 0 = W q 0 ∧ W p 1 = W q 1 ∧ W p 2 = W q 2 ∧ W p 3 = W q 3)
theorem eqB_true {p q : Nat → Bool} (h : ∀ b, b < 256 → p b = q b) : eqB p q = true := by
  have hw : ∀ i, i < 4 → W p i = W q i := fun i hi => W_congr fun j hj => h _ (by omega)
  simp [eqB, hw 0, hw 1, hw 2, hw 3]
theorem eqB_refl (p : Nat → Bool) : eqB p p = true := eqB_true fun _ _ => rfl

theorem set_eql (p q : Nat → Bool) (w : World) : (binOp .eql 28 (.agg #[.int .u64 (W (p) 0), .int .u64 (W (p) 1), .int .u64 (W (p) 2), .int .u64 (W (p) 3)]) (.agg #[.int .u64 (W (q) 0), .int .u64 (W (q) 1), .int .u64 (W (q) 2), .int .u64 (W (q) 3)])).run Tryd.prog w = .ok (.bool (eqB p q)) w := by
  rw [run_eql_struct]
  exact (congrArg (fun r => Result.andThen r _) (run_eq27 9998 _ _ _ _ _ _ _ _ w))
theorem set_neq (p q : Nat → Bool) (w : World) : (binOp .neq 28 (.agg #[.int .u64 (W (p) 0), .int .u64 (W (p) 1), .int .u64 (W (p) 2), .int .u64 (W (p) 3)]) (.agg #[.int .u64 (W (q) 0), .int .u64 (W (q) 1), .int .u64 (W (q) 2), .int .u64 (W (q) 3)])).run Tryd.prog w = .ok (.bool (!eqB p q)) w := by
  rw [run_neq_struct]
  exact (congrArg (fun r => Result.andThen r _) (run_eq27 9998 _ _ _ _ _ _ _ _ w))
theorem pair_neq (a b : Int) (w : World) : (binOp .neq 60 (.agg #[.int .u8 a, .int .u8 b]) (.agg #[.int .u8 a, .int .u8 b])).run Tryd.prog w = .ok (.bool false) w := by
  rw [run_neq_struct]
  refine (congrArg (fun r => Result.andThen r _) (run_eq42 9998 _ _ _ _ w)).trans ?_
  simp

end Go.Proofs.YtghjkbjpdjlddaaDoor
