/- The landed builder: what may be nothing, by leaves. -/
import Derived.Test.YtahhiajliomcfaaPG8
import Derived.Test.YtahhiajliomcfaaPBg
import Derived.Test.YtahhiajliomcfaaPJn
namespace Go.Proofs.Ytahhiajliomcfaa.Sy.Gl
open Go.RowKit Go.Proofs.Ytahhiajliomcfaa.Sy.Ap Go.Proofs.Ytahhiajliomcfaa.Sy.Ap.Wk Go.Proofs.Ytahhiajliomcfaa.Sy.Lg Go.Proofs.Ytahhiajliomcfaa.Sy.Pl
set_option maxRecDepth 100000
set_option linter.unusedVariables false

def leafG (z : Bool) : Gd := if z then ⟨1, noB, [], 0, 0, ⟨#[]⟩⟩ else Rf.setG s1
def leafN (z : Bool) : Nd := if z then ndEmpty else ndBytes s1
theorem leaf_gn (z : Bool) : GN1 (leafG z) (leafN z) := by
  cases z with
  | true => exact ⟨rfl, fun _ _ => rfl, rfl, rfl, rfl, rfl⟩
  | false => exact ⟨rfl, fun _ _ => rfl, rfl, rfl, rfl, rfl⟩
theorem leaf_l (z : Bool) : (leafN z).l = [] := by cases z <;> rfl
theorem leaf_shape (z : Bool) : shapeB (leafN z) = true := by
  cases z with
  | true => rfl
  | false => exact shape_bytes s1_some
theorem leaf_may (z : Bool) (m : List Bool) : may1 (leafN z) m = z := by cases z <;> rfl
theorem leaves_may : ∀ (k : Nat) (zs : List Bool), zs.length = k → mayL (zs.map leafN) = zs
  | 0, zs, h => by rw [List.eq_nil_of_length_eq_zero h]; rfl
  | k + 1, zs, h => by
    rcases list_snoc zs with e | ⟨r, n, e⟩
    · rw [e] at h; simp at h
    · subst e
      rw [List.length_append, List.length_singleton] at h
      rw [List.map_append, List.map_cons, List.map_nil, mayL_snoc, leaves_may k r (by omega), leaf_may]
theorem range_getD (zs : List Bool) : (List.range zs.length).map (fun k => zs.getD k false) = zs := by
  apply List.ext_getElem
  · simp
  · intro i h1 h2
    simp only [List.getElem_map, List.getElem_range]
    rw [List.getD_eq_getElem?_getD, List.getElem?_eq_getElem h2]
    rfl
/-- A node over leaves may be nothing just if the node may. -/
theorem may_leaves (n : Nd) (parts : List Pt) (h5 : n.op = 5 → n.l ≠ []) : may1 (withL n (List.range n.l.length)) ((kidsG n parts).map Pt.nul) = may1 n (parts.map Pt.nul) := by
  have hlen : ((kidsG n parts).map Pt.nul).length = n.l.length := by unfold kidsG; simp
  have hk : (kidsG n parts).map Pt.nul = n.l.map fun k => (parts.map Pt.nul).getD k false := by
    unfold kidsG
    rw [List.map_map]
    apply List.map_congr_left
    intro k _
    show (parts.getD k pt0).nul = _
    rw [List.getD_eq_getElem?_getD, List.getD_eq_getElem?_getD, List.getElem?_map]
    cases parts[k]? <;> rfl
  have hr := range_getD ((kidsG n parts).map Pt.nul)
  rw [hlen] at hr
  have ha : ((List.range n.l.length).all fun k => ((kidsG n parts).map Pt.nul).getD k false) = n.l.all fun k => (parts.map Pt.nul).getD k false := by
    have e1 : ((List.range n.l.length).all fun k => ((kidsG n parts).map Pt.nul).getD k false) = ((List.range n.l.length).map fun k => ((kidsG n parts).map Pt.nul).getD k false).all id := by rw [List.all_map]; rfl
    have e2 : (n.l.all fun k => (parts.map Pt.nul).getD k false) = (n.l.map fun k => (parts.map Pt.nul).getD k false).all id := by rw [List.all_map]; rfl
    rw [e1, e2, hr, hk]
  have hb : ((List.range n.l.length).any fun k => ((kidsG n parts).map Pt.nul).getD k false) = n.l.any fun k => (parts.map Pt.nul).getD k false := by
    have e1 : ((List.range n.l.length).any fun k => ((kidsG n parts).map Pt.nul).getD k false) = ((List.range n.l.length).map fun k => ((kidsG n parts).map Pt.nul).getD k false).any id := by rw [List.any_map]; rfl
    have e2 : (n.l.any fun k => (parts.map Pt.nul).getD k false) = (n.l.map fun k => (parts.map Pt.nul).getD k false).any id := by rw [List.any_map]; rfl
    rw [e1, e2, hr, hk]
  unfold may1
  show (if n.op = 1 then true else if n.op = 3 then (List.range n.l.length).all _ else if n.op = 4 then (List.range n.l.length).any _ else if n.op = 5 then n.lo == 0 || ((kidsG n parts).map Pt.nul).getD ((List.range n.l.length).getD 0 0) false else false) = _
  rw [ha, hb]
  by_cases e5 : n.op = 5
  · have hne := h5 e5
    cases hl : n.l with
    | nil => exact absurd hl hne
    | cons x r =>
      have e0 : ((List.range (x :: r).length).getD 0 0) = 0 := by simp [List.getD_eq_getElem?_getD]
      rw [hk, hl, e0]
      simp [e5]
  · simp only [if_neg e5]
set_option maxHeartbeats 400000 in
theorem leaf_any (z : Bool) (w : World) : Calls Try.prog 63 #[.bool z] w fun e w' => e = .returned (.agg (gdL (leafG z) none 0).toArray) ∧ Below w.heap.size w w' := by
  have Z0 := RowA.new w 42 zeroC
  have D0 : Below w.heap.size w (w.alloc (.cells zeroC 42)) := (Below.refl _ _).alloc (Nat.le_refl _) _
  have R1 := Z0.row (gdL (leafG z) none 0).toArray
  have D1 := bel_setRow D0 w.heap.size (gdL (leafG z) none 0).toArray (Nat.le_refl _)
  cases z with
  | true =>
    have e : (gdL (leafG true) none 0).toArray = #[.int .u8 1, .int .u64 0, .int .u64 0, .int .u64 0, .int .u64 0, .slice none 0 0, .int .i64 0, .int .i64 0, .string { data := #[] }] := by
      unfold leafG gdL
      simp only [if_true, W_zero, List.length_nil]
    rw [e] at R1 D1
    go_enter Try.func63, Try.ntmps63
    go_wp2_with (refine wpList_store_row rfl 42 (.tmp 2) (.tmp 4) rfl w.heap.size #[.int .u8 1, .int .u64 0, .int .u64 0, .int .u64 0, .int .u64 0, .slice none 0 0, .int .i64 0, .int .i64 0, .string { data := #[] }] rfl rfl 42 zeroC Z0 (by rw [← e]; exact gdL_infoA _ _ _) rfl (by rw [← e]; exact gdL_one _ _ _) ?_)
    rw [← e] at R1 D1
    simp only [← e]
    exact ret_node Try.results63 rfl R1 rfl ⟨rfl, D1⟩
  | false =>
    have e : (gdL (leafG false) none 0).toArray = #[.int .u8 2, .int .u64 1, .int .u64 0, .int .u64 0, .int .u64 0, .slice none 0 0, .int .i64 0, .int .i64 0, .string { data := #[] }] := by
      have : leafG false = Rf.setG s1 := rfl
      rw [this, litL]
    rw [e] at R1 D1
    go_enter Try.func63, Try.ntmps63
    go_wp2_with (refine wpList_store_row rfl 42 (.tmp 2) (.tmp 6) rfl w.heap.size #[.int .u8 2, .int .u64 1, .int .u64 0, .int .u64 0, .int .u64 0, .slice none 0 0, .int .i64 0, .int .i64 0, .string { data := #[] }] rfl rfl 42 zeroC Z0 (by rw [← e]; exact gdL_infoA _ _ _) rfl (by rw [← e]; exact gdL_one _ _ _) ?_)
    rw [← e] at R1 D1
    simp only [← e]
    exact ret_node Try.results63 rfl R1 rfl ⟨rfl, D1⟩
end Go.Proofs.Ytahhiajliomcfaa.Sy.Gl
