/- Boxes: blocks that each hold one set, kept while calls make memory. -/
import Derived.Test.YtlfbjnmehdifeaaWk
namespace Go.Proofs.Ytlfbjnmehdifeaa
open Go.RowKit

/-- Two, three and four boxes. -/
structure Box1 (v : World) (g0 : Nat) (p0 : Nat → Bool) : Prop where
  r0 : Row4 v g0 p0
structure Box2 (v : World) (g0 g1 : Nat) (p0 p1 : Nat → Bool) : Prop where
  r0 : Row4 v g0 p0
  r1 : Row4 v g1 p1
structure Box4 (v : World) (g0 g1 g2 g3 : Nat) (p0 p1 p2 p3 : Nat → Bool) : Prop where
  r0 : Row4 v g0 p0
  r1 : Row4 v g1 p1
  r2 : Row4 v g2 p2
  r3 : Row4 v g3 p3

section
variable {v v' : World} {g0 g1 g2 g3 : Nat} {p0 p1 p2 p3 : Nat → Bool}
theorem Box1.below (h : Box1 v g0 p0) (hb : Below v.heap.size v v') : Box1 v' g0 p0 := ⟨h.r0.below hb h.r0.lt⟩
theorem Box1.drew (h : Box1 v g0 p0) : Box1 v.drew g0 p0 := ⟨h.r0.drew⟩
theorem Box1.alloc (h : Box1 v g0 p0) (o : Obj) : Box1 (v.alloc o) g0 p0 := ⟨h.r0.alloc o⟩
theorem Box1.cells (h : Box1 v g0 p0) : v.cell? ⟨g0, 0, none⟩ = some (.int .u64 (W p0 0)) ∧ v.cell? ⟨g0, 1, none⟩ = some (.int .u64 (W p0 1)) ∧ v.cell? ⟨g0, 2, none⟩ = some (.int .u64 (W p0 2)) ∧ v.cell? ⟨g0, 3, none⟩ = some (.int .u64 (W p0 3)) := h.r0.cells
theorem Box2.below (h : Box2 v g0 g1 p0 p1) (hb : Below v.heap.size v v') : Box2 v' g0 g1 p0 p1 := ⟨h.r0.below hb h.r0.lt, h.r1.below hb h.r1.lt⟩
theorem Box2.drew (h : Box2 v g0 g1 p0 p1) : Box2 v.drew g0 g1 p0 p1 := ⟨h.r0.drew, h.r1.drew⟩
theorem Box2.alloc (h : Box2 v g0 g1 p0 p1) (o : Obj) : Box2 (v.alloc o) g0 g1 p0 p1 := ⟨h.r0.alloc o, h.r1.alloc o⟩
theorem Box2.cells (h : Box2 v g0 g1 p0 p1) : (v.cell? ⟨g0, 0, none⟩ = some (.int .u64 (W p0 0)) ∧ v.cell? ⟨g0, 1, none⟩ = some (.int .u64 (W p0 1)) ∧ v.cell? ⟨g0, 2, none⟩ = some (.int .u64 (W p0 2)) ∧ v.cell? ⟨g0, 3, none⟩ = some (.int .u64 (W p0 3))) ∧
    v.cell? ⟨g1, 0, none⟩ = some (.int .u64 (W p1 0)) ∧ v.cell? ⟨g1, 1, none⟩ = some (.int .u64 (W p1 1)) ∧ v.cell? ⟨g1, 2, none⟩ = some (.int .u64 (W p1 2)) ∧ v.cell? ⟨g1, 3, none⟩ = some (.int .u64 (W p1 3)) := ⟨h.r0.cells, h.r1.cells⟩
theorem Box4.below (h : Box4 v g0 g1 g2 g3 p0 p1 p2 p3) (hb : Below v.heap.size v v') : Box4 v' g0 g1 g2 g3 p0 p1 p2 p3 := ⟨h.r0.below hb h.r0.lt, h.r1.below hb h.r1.lt, h.r2.below hb h.r2.lt, h.r3.below hb h.r3.lt⟩
theorem Box4.drew (h : Box4 v g0 g1 g2 g3 p0 p1 p2 p3) : Box4 v.drew g0 g1 g2 g3 p0 p1 p2 p3 := ⟨h.r0.drew, h.r1.drew, h.r2.drew, h.r3.drew⟩
theorem Box4.alloc (h : Box4 v g0 g1 g2 g3 p0 p1 p2 p3) (o : Obj) : Box4 (v.alloc o) g0 g1 g2 g3 p0 p1 p2 p3 := ⟨h.r0.alloc o, h.r1.alloc o, h.r2.alloc o, h.r3.alloc o⟩
theorem Box4.cells (h : Box4 v g0 g1 g2 g3 p0 p1 p2 p3) : (v.cell? ⟨g0, 0, none⟩ = some (.int .u64 (W p0 0)) ∧ v.cell? ⟨g0, 1, none⟩ = some (.int .u64 (W p0 1)) ∧ v.cell? ⟨g0, 2, none⟩ = some (.int .u64 (W p0 2)) ∧ v.cell? ⟨g0, 3, none⟩ = some (.int .u64 (W p0 3))) ∧
    (v.cell? ⟨g1, 0, none⟩ = some (.int .u64 (W p1 0)) ∧ v.cell? ⟨g1, 1, none⟩ = some (.int .u64 (W p1 1)) ∧ v.cell? ⟨g1, 2, none⟩ = some (.int .u64 (W p1 2)) ∧ v.cell? ⟨g1, 3, none⟩ = some (.int .u64 (W p1 3))) ∧
    (v.cell? ⟨g2, 0, none⟩ = some (.int .u64 (W p2 0)) ∧ v.cell? ⟨g2, 1, none⟩ = some (.int .u64 (W p2 1)) ∧ v.cell? ⟨g2, 2, none⟩ = some (.int .u64 (W p2 2)) ∧ v.cell? ⟨g2, 3, none⟩ = some (.int .u64 (W p2 3))) ∧
    v.cell? ⟨g3, 0, none⟩ = some (.int .u64 (W p3 0)) ∧ v.cell? ⟨g3, 1, none⟩ = some (.int .u64 (W p3 1)) ∧ v.cell? ⟨g3, 2, none⟩ = some (.int .u64 (W p3 2)) ∧ v.cell? ⟨g3, 3, none⟩ = some (.int .u64 (W p3 3)) := ⟨h.r0.cells, h.r1.cells, h.r2.cells, h.r3.cells⟩
end

end Go.Proofs.Ytlfbjnmehdifeaa
