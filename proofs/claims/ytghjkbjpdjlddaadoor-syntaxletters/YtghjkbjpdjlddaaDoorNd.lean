/- The law SyntaxTree, by what Parse and Right owe. -/
import Derived.Test.YtghjkbjpdjlddaaDoorNc
namespace Go.Proofs.YtghjkbjpdjlddaaDoor.Sy
open Go.RowKit

theorem bs_len (b : ByteArray) : (bs b).length = b.size := by
  unfold bs
  rw [List.length_map]
  rfl
theorem bs_lt (b : ByteArray) : ∀ c ∈ bs b, c < 256 := by
  intro c hc
  unfold bs at hc
  obtain ⟨x, _, rfl⟩ := List.mem_map.1 hc
  exact x.toNat_lt
/-- The first n bytes. -/
def cutS (n : Nat) (s : ByteArray) : ByteArray := if n < s.size then s.extract 0 n else s
theorem cutS_size (n : Nat) (s : ByteArray) : (cutS n s).size = min s.size n := by
  unfold cutS
  split
  · rw [ByteArray.size_extract]; omega
  · omega


/-- Nodes that are a tree: P4.1. -/
def RightG (gs : List Gd) : Prop := ∃ ns, GN gs ns ∧ Shp ns ∧ 1 ≤ ns.length ∧ ns.length ≤ 1024 ∧ Forest ns 0 ns.length [ns.length - 1]
/-- What Right owes. -/
def RightC : Prop := ∀ (A : Option Addr) (c : Nat) (gs : List Gd) (w : World), Nds w w.heap.size A gs → gs.length ≤ 2000 →
  Calls Tryd.prog 19 #[.slice A gs.length c] w fun e w' => ∃ b, e = .returned (.bool b) ∧ (b = true ↔ RightG gs) ∧ Below w.heap.size w w'


end Go.Proofs.YtghjkbjpdjlddaaDoor.Sy
