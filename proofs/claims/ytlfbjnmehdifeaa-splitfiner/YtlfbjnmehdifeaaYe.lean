/- split as it landed: Of. -/
import Derived.Test.YtlfbjnmehdifeaaYd
namespace Go.Proofs.Ytlfbjnmehdifeaa
open Go.RowKit

theorem built_one : Try.prog.built 26 [(1, .int .i64 1)] = some (spC (fun _ => 0) 1) := by kernel_rfl
theorem built_arg (a : Act) : ((#[(1, Operand.const (.int .i64 1))] : Array (Nat × Operand)).map fun (i, x) => (i, a.eval x)).toList = [(1, .int .i64 1)] := by simp [Act.eval]
theorem wpList_built_one {ops : Array Oper} {rest : List Oper} {o : Oper} {a : Act} {w : World} {Q : Exit → Act → World → Prop} (hg : o.guard = none) (ho : o.op = .build 26 #[(1, .const (.int .i64 1))])
    (h : wpList Try.prog ops Q rest (a.put o.dst (.agg (spC (fun _ => 0) 1))) w) : wpList Try.prog ops Q (o :: rest) a w := by
  have hb := built_one
  refine wpList_build hg 26 _ ho ?_ ?_
  · rw [built_arg, hb]; rfl
  · rw [built_arg, hb]; exact h

/-- The Split of sets. -/
def spOf (ps : List (Nat → Bool)) : Array Value := spC (fun b => (clsOf (likeB ps) b : Int)) ((frsts (likeB ps) 256).length : Int)
theorem spOf_nil : spOf [] = spC (fun _ => 0) 1 := by
  unfold spOf
  rw [(cls_one 255).2]
  exact spC_congr _ fun i _ => by rw [(cls_one i).1]; rfl

set_option maxRecDepth 100000 in
set_option maxHeartbeats 2000000 in
theorem of2_any : OfC := by
  intro A c ps w hS hl
  go_enter Try.func11, Try.ntmps11
  have hz := split_zero
  have Z0 := (RowS.new w (fun _ => 0) 0).alloc (.cells (spC (fun _ => 0) 0) 26)
  have Z1 := RowS.new (w.alloc (.cells (spC (fun _ => 0) 0) 26)) (fun _ => 0) 0
  rw [World.size_alloc] at Z1
  have D0 := bel_setRow (((Below.refl w.heap.size w).alloc (Nat.le_refl _) (.cells (spC (fun _ => 0) 0) 26)).alloc (by simp) (.cells (spC (fun _ => 0) 0) 26)) (w.heap.size + 1) (spC (fun _ => 0) 1) (by omega)
  go_wp2_with (first
    | refine wpList_built_one rfl rfl ?_
    | refine wpList_store_row rfl 26 (.tmp 3) (.tmp 6) rfl (w.heap.size + 1) (spC (fun _ => 0) 1) rfl rfl 26 (spC (fun _ => 0) 0) Z1 (split_info _ _) rfl (spC_one _ _) ?_)
  have Y0 := Z0.apart (j := w.heap.size + 1) (spC (fun _ => 0) 1) (by omega)
  have Y1 := Z1.row (fun _ => 0) 1
  clear Z0 Z1
  generalize ((w.alloc (.cells (spC (fun _ => 0) 0) 26)).alloc (.cells (spC (fun _ => 0) 0) 26)).setRow (w.heap.size + 1) (spC (fun _ => 0) 1) = w0 at *
  go_loopw [9] (fun i wr => ∃ k : Nat, k ≤ ps.length ∧ i = .int .i64 k ∧ RowS wr w.heap.size (fun _ => 0) 0 ∧ RowS wr (w.heap.size + 1) (fun b => (clsOf (likeB (ps.take k)) b : Int)) ((frsts (likeB (ps.take k)) 256).length : Int) ∧ Below w.heap.size w wr) (fun i _ => ps.length - (intOf i).toNat)
  case atStart =>
    refine ⟨0, Nat.zero_le _, rfl, Y0, ?_, D0⟩
    have e := spOf_nil
    unfold spOf at e
    unfold RowS at Y1 ⊢
    rw [List.take_zero, e]
    exact Y1
  case round =>
    obtain ⟨k, hk0, rfl, R0, R1, hb⟩ := hrel
    by_cases hlt : k < ps.length
    · obtain ⟨g, off, rfl, hg, c0, c1, c2, c3⟩ := (hS.below hb).at_ hlt
      have HC := hidd (like_cut ps k hlt)
      generalize ps.getD k noB = p at *
      generalize hLL : likeB (ps.take k) = L at *
      have E : Eqv L := by rw [← hLL]; exact like_eqv _
      have hz1 := R1.lt
      have hk5 : ¬ wr.heap.size = w.heap.size + 1 := by omega
      have T0 := R0.alloc (.cells (#[.int .u64 (W (p) 0), .int .u64 (W (p) 1), .int .u64 (W (p) 2), .int .u64 (W (p) 3)]) 33)
      have T1 := R1.alloc (.cells (#[.int .u64 (W (p) 0), .int .u64 (W (p) 1), .int .u64 (W (p) 2), .int .u64 (W (p) 3)]) 33)
      have D1 := hb.alloc hb.size (.cells (#[.int .u64 (W (p) 0), .int .u64 (W (p) 1), .int .u64 (W (p) 2), .int .u64 (W (p) 3)]) 33)
      go_wp2_with (refine wpList_load_row rfl 26 (.tmp 3) rfl (w.heap.size + 1) rfl 26 (spC (fun b => (clsOf L b : Int)) ((frsts L 256).length : Int)) (0, 0) _ T1 Try.underlying26 rfl (split_info _ _) ?_)
      refine (cut_any L E p _ _).mono ?_
      rintro e w1 ⟨rfl, hb1⟩
      generalize wr.alloc (.cells (#[.int .u64 (W (p) 0), .int .u64 (W (p) 1), .int .u64 (W (p) 2), .int .u64 (W (p) 3)]) 33) = w2 at *
      have U0 := T0.below hb1 T0.lt
      have U1 := T1.below hb1 T1.lt
      have D2 := D1.trans (hb1.mono D1.size)
      clear T0 T1 D1 hb1 c0 c1 c2 c3
      go_wp2_with (refine wpList_store_row rfl 26 (.tmp 3) (.tmp 15) rfl (w.heap.size + 1) (spC (fun b => (clsOf (cutL L p) b : Int)) ((frsts (cutL L p) 256).length : Int)) rfl rfl 26 _ U1 (split_info _ _) (by rw [spC_size, spC_size]) (spC_one _ _) ?_)
      refine ⟨⟨k + 1, by omega, rfl, U0.apart _ (by omega), ?_, bel_setRow D2 _ _ (by omega)⟩, by simp [intOf]; omega⟩
      rw [HC.out]
      exact U1.row _ _
    · have hk5 : k = ps.length := by omega
      subst hk5
      rw [List.take_length] at R1
      go_wp2_with (first
        | refine wpList_load_row rfl 26 (.tmp 3) rfl (w.heap.size + 1) rfl 26 (spC (fun i => (clsOf (likeB ps) i : Int)) (frsts (likeB ps) 256).length) (0, 0) _ R1 Try.underlying26 rfl (split_info _ _) ?_
        | refine wpList_store_row rfl 26 (.tmp 2) (.tmp 17) rfl w.heap.size (spC (fun i => (clsOf (likeB ps) i : Int)) (frsts (likeB ps) 256).length) rfl rfl 26 (spC (fun _ => 0) 0) R0 (split_info _ _) (by rw [spC_size, spC_size]) (spC_one _ _) ?_)
      exact ret_split Try.results11 rfl (R0.row _ _) rfl ⟨rfl, bel_setRow hb _ _ (Nat.le_refl _)⟩

end Go.Proofs.Ytlfbjnmehdifeaa
