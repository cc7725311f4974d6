/- Blocks whose cells are told by a function of their place; the classes of a Split read as one array. -/
import Derived.Test.YtlfbjnmehdifeaaXm
import Derived.Deep.MidRow
import Derived.Laws.MakeOwn
namespace Go.Proofs.Ytlfbjnmehdifeaa
open Go.RowKit

/-- n cells, told by a function of their place. -/
def fnC (n : Nat) (h : Nat → Value) : Array Value := ((List.range n).map h).toArray
theorem fnC_size (n : Nat) (h : Nat → Value) : (fnC n h).size = n := by simp [fnC]
theorem fnC_at (n : Nat) (h : Nat → Value) (k : Nat) (hk : k < n) : (fnC n h)[k]? = some (h k) := by
  unfold fnC
  rw [List.getElem?_toArray]
  simp [hk]
theorem fnC_congr {n : Nat} {h h' : Nat → Value} (e : ∀ i, i < n → h i = h' i) : fnC n h = fnC n h' := by
  unfold fnC
  congr 1
  apply List.map_congr_left
  intro i hi
  exact e i (by simpa using hi)
theorem fnC_set (n : Nat) (h : Nat → Value) (k : Nat) (v : Value) : (fnC n h).setIfInBounds k v = fnC n (fun i => if i = k then v else h i) := by
  apply Array.ext_getElem?
  intro i
  by_cases hi : i < n
  · rw [fnC_at _ _ _ hi]
    by_cases e : i = k
    · subst e
      rw [Array.getElem?_setIfInBounds_self_of_lt (by rw [fnC_size]; exact hi)]
      simp
    · rw [Array.getElem?_setIfInBounds_ne (fun x => e x.symm), fnC_at _ _ _ hi]
      simp [e]
  · rw [Array.getElem?_eq_none (by simp [fnC_size]; omega), Array.getElem?_eq_none (by simp [fnC_size]; omega)]

/-- Block g holds just these cells. -/
def RowF (w : World) (g : Nat) (t : TypeId) (n : Nat) (h : Nat → Value) : Prop := w.heap[g]? = some (.cells (fnC n h) t (0, 0))
section
variable {w w' : World} {g : Nat} {t : TypeId} {n : Nat} {h h' : Nat → Value}
theorem RowF.lt (r : RowF w g t n h) : g < w.heap.size := by
  unfold RowF at r
  rcases Nat.lt_or_ge g w.heap.size with hl | hg
  · exact hl
  · rw [Array.getElem?_eq_none hg] at r; cases r
theorem RowF.at_ (r : RowF w g t n h) (k : Nat) (hk : k < n) : w.cell? ⟨g, k, none⟩ = some (h k) := by
  unfold RowF at r
  simp [World.cell?, r, fnC_at n h k hk]
theorem RowF.thawed (r : RowF w g t n h) (o : Nat) : w.frozen? ⟨g, o, none⟩ = false := by
  unfold RowF at r
  simp [World.frozen?, r]
theorem RowF.below {B : Nat} (r : RowF w g t n h) (hb : Below B w w') (hg : g < B) : RowF w' g t n h := (hb.block g hg).trans r
theorem RowF.new (w : World) (t : TypeId) (n : Nat) (h : Nat → Value) : RowF (w.alloc (.cells (fnC n h) t)) w.heap.size t n h := heap_new w _
theorem RowF.alloc (r : RowF w g t n h) (o : Obj) : RowF (w.alloc o) g t n h := (Below.heap_alloc w o g r.lt).trans r
theorem RowF.far (r : RowF w g t n h) {a : Addr} (ha : g ≠ a.block) (u : Value) : RowF (w.setCell a u) g t n h := (Below.heap_setCell w a u g ha).trans r
theorem RowF.grown {row : Option Nat} (r : RowF w g t n h) (hg : w.grownBy w' row) (hr : some g ≠ row) : RowF w' g t n h := (hg.block g r.lt hr).trans r
theorem RowF.drew (r : RowF w g t n h) : RowF w.drew g t n h := r
theorem RowF.put (r : RowF w g t n h) (k : Nat) (v : Value) : RowF (w.setCell ⟨g, k, none⟩ v) g t n (fun i => if i = k then v else h i) := by
  unfold RowF at r ⊢
  rw [← fnC_set]
  simp [World.setCell, Array.getElem?_modify, r]
theorem RowF.congr (r : RowF w g t n h) (e : ∀ i, i < n → h i = h' i) : RowF w g t n h' := by
  unfold RowF at r ⊢
  rw [← fnC_congr e]; exact r
end
theorem RowS.drew {w : World} {g : Nat} {f : Nat → Int} {m : Int} (h : RowS w g f m) : RowS w.drew g f m := h

/-- The classes alone, as an array. -/
def clsC (f : Nat → Int) : List Value := (List.range 256).map fun i => Value.int .u8 (f i)
theorem clsC_len (f : Nat → Int) : (clsC f).length = 256 := by simp [clsC]
theorem RowS.range {w : World} {g : Nat} {f : Nat → Int} {m : Int} (h : RowS w g f m) : w.rangeAt g 0 (clsC f) := by
  intro j v hv
  have hj : j < 256 := by
    rcases Nat.lt_or_ge j 256 with hl | hg
    · exact hl
    · rw [List.getElem?_eq_none (by rw [clsC_len]; exact hg)] at hv; cases hv
  have e : (clsC f)[j]? = some (.int .u8 (f j)) := by simp [clsC, hj]
  rw [e] at hv
  cases hv
  rw [Nat.zero_add]
  exact h.at_ j hj
theorem cls_info (f : Nat → Int) : (Try.prog.info? 24).map (·.size) = some (clsC f).length := by
  rw [clsC_len]; kernel_rfl
theorem cls_index (f : Nat → Int) (k : Nat) (hk : k < 256) (w : World) : (Instr.index 24 (.agg (clsC f).toArray) (.int .i64 (k : Int))).run Try.prog w = .ok (.int .u8 (f k)) w := by
  have e : (clsC f)[k]? = some (.int .u8 (f k)) := by simp [clsC, hk]
  have hs : (Try.prog.info? 5).map (·.size) = some 1 := by kernel_rfl
  have hu : Try.prog.underlying 24 = some (.array 256 5) := Try.underlying24
  have hu5 := Try.underlying5
  cases hi : Try.prog.info? 5 with
  | none => rw [hi] at hs; cases hs
  | some i =>
    rw [hi] at hs
    have hsz : i.size = 1 := by simpa using hs
    simp [Instr.index, asIntOf, run_underlying hu, sizeOf, typeInfo, hi, hsz, hk, part, isAgg, run_underlying hu5, e]

end Go.Proofs.Ytlfbjnmehdifeaa
