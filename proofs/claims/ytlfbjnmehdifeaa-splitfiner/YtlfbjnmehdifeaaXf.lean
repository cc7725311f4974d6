/- '==' on Splits: one and itself. -/
import Derived.Test.YtlfbjnmehdifeaaXe
import Derived.Test.YtlfbjnmehdifeaaEq
import Derived.DeepKeys
namespace Go.Proofs.Ytlfbjnmehdifeaa
open Go.RowKit

theorem guardSplit : Try.prog.eqGuardType Try.prog.depth 26 = false := by kernel_rfl
theorem items_self (d : Nat) (xs : Array Value) (w : World) : ∀ is : List Nat, (∀ i ∈ is, ∃ a, xs[i]? = some (.int .u8 a)) → (Op.eqItems (d + 1) 5 1 xs xs is).run Try.prog w = .ok true w
  | [], _ => by simp [Op.eqItems]
  | i :: is, h => by
    obtain ⟨a, ha⟩ := h i (by simp)
    rw [items_step u8_plain Try.underlying5 d xs xs i is a a w ha ha, if_pos rfl]
    exact items_self d xs w is fun j hj => h j (by simp [hj])

theorem split_fields : (Try.prog.fieldsOf 26).toList.map (fun f => (f.name, f.type, f.offset)) = [("Of", 24, 0), ("Many", 3, 256)] := by kernel_rfl
theorem split_fields' : ∃ f0 f1, (Try.prog.fieldsOf 26).toList = [f0, f1] ∧ f0.name = "Of" ∧ f0.type = 24 ∧ f0.offset = 0 ∧ f1.name = "Many" ∧ f1.type = 3 ∧ f1.offset = 256 := by
  have h := split_fields
  generalize (Try.prog.fieldsOf 26).toList = l at *
  cases l with
  | nil => cases h
  | cons f0 l =>
    cases l with
    | nil => simp at h
    | cons f1 l =>
      cases l with
      | nil =>
        simp only [List.map_cons, List.map_nil, List.cons.injEq, Prod.mk.injEq, and_true] at h
        exact ⟨f0, f1, rfl, h.1.1, h.1.2.1, h.1.2.2, h.2.1, h.2.2.1, h.2.2.2⟩
      | cons f2 l => simp at h
theorem split_under : Try.prog.underlying 26 = some (.struct (Try.prog.fieldsOf 26)) := by kernel_rfl
theorem split_held : Try.prog.stoodInHeld 26 = false := by kernel_rfl
theorem row_info : (Try.prog.info? 24).isSome = true := by kernel_rfl
theorem row_cells : Try.prog.cellsOf 24 = 256 := by kernel_rfl
theorem int_plain : Try.prog.plainKey 3 = true := by kernel_rfl
theorem run_part_row (xs : Array Value) (w : World) : (part 24 xs 0).run Try.prog w = .ok (.agg (xs.extract 0 256)) w := by
  obtain ⟨i, hi⟩ := Option.isSome_iff_exists.1 row_info
  have hs : (sizeOf 24).run Try.prog w = .ok 256 w := (run_sizeOf w hi).trans (by rw [row_cells])
  have ha : (isAgg 24).run Try.prog w = .ok true w := by
    unfold isAgg
    rw [Sem.run_bind, run_underlying Try.underlying24 w]
    rfl
  unfold part
  rw [Sem.run_bind, ha]
  show (Sem.run Try.prog (do pure (Value.agg (xs.extract 0 (0 + (← sizeOf 24))))) w) = _
  rw [Sem.run_bind, hs]
  rfl

theorem split_self (d : Nat) (f : Nat → Int) (m : Int) (w : World) : (Op.equalIn (d + 3) 26 (.agg (spC f m)) (.agg (spC f m))).run Try.prog w = .ok true w := by
  obtain ⟨i, hi⟩ := Option.isSome_iff_exists.1 u8_info
  obtain ⟨f0, f1, hl, n0, t0, o0, n1, t1, o1⟩ := split_fields'
  rw [run_equalIn_struct w (d + 2) 26 _ _ split_under split_held, hl]
  have hx : (spC f m)[256]? = some (.int .i64 m) := spC_many f m
  have hit : (Op.eqItems (d + 1) 5 1 ((spC f m).extract 0 256) ((spC f m).extract 0 256) (List.range 256)).run Try.prog w = .ok true w := by
    refine items_self d _ w _ fun j hj => ?_
    rw [List.mem_range] at hj
    refine ⟨f j, ?_⟩
    have h := spC_at f m j hj
    rw [Array.getElem?_extract, if_pos (by rw [spC_size]; omega), Nat.zero_add]
    exact h
  have hr : (Op.equalIn (d + 2) 24 (.agg ((spC f m).extract 0 256)) (.agg ((spC f m).extract 0 256))).run Try.prog w = .ok true w := by
    rw [run_equalIn_array w (d + 1) _ _ Try.underlying24 hi, u8_cells]
    exact hit
  have he := run_equalIn_int w (d + 1) 3 .i64 .i64 m m Try.underlying3
  have hp := run_part_plain w int_plain hx
  simp [Op.eqFields, n0, n1, t0, t1, o0, o1, run_part_row, hr, hp, he]

theorem split_eql (f : Nat → Int) (m : Int) (w : World) : (binOp .eql 26 (.agg (spC f m)) (.agg (spC f m))).run Try.prog w = .ok (.bool true) w := by
  rw [run_eql_struct]
  exact congrArg (fun r => Result.andThen r _) (split_self 9997 f m w)

end Go.Proofs.Ytlfbjnmehdifeaa
