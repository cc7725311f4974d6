/- The law SyntaxBounds, by what Parse owes. -/
import Derived.Test.YtghjkbjpdjlddaaDoorNe
import Derived.Test.YtghjkbjpdjlddaaDoorGs
namespace Go.Proofs.YtghjkbjpdjlddaaDoor.Sy
open Go.RowKit

theorem bs_nums (xs : List Int) (h : ∀ x ∈ xs, 0 ≤ x ∧ x ≤ 255) : bs (strOfNums xs) = xs.map Int.toNat := by
  unfold bs
  rw [strOfNums_data, List.map_map]
  apply List.map_congr_left
  intro x hx
  have := h x hx
  show (UInt8.ofNat x.toNat).toNat = x.toNat
  rw [UInt8.toNat_ofNat']
  omega


/-- The second node of a list of two, read field by field. -/
theorem nds_second {w : World} {B : Nat} {A : Option Addr} {gs : List Gd} {n0 n1 : Nd} (h : Nds w B A gs) (hg : GN gs [n0, n1]) : ∃ b off, A = some ⟨b, off, none⟩ ∧ w.cell? ⟨b, off + 9, none⟩ = some (.int .u8 (n1.op : Int)) ∧ w.cell? ⟨b, off + 9 + 6, none⟩ = some (.int .i64 n1.lo) ∧ w.cell? ⟨b, off + 9 + 7, none⟩ = some (.int .i64 n1.hi) := by
  have hl : gs.length = 2 := hg.1
  obtain ⟨b, off, rfl, _, A1, c1, _, hr⟩ := h.at_ (k := 1) (by omega)
  have g1 := hg.2 1 (by omega)
  have e : ([n0, n1] : List Nd).getD 1 nd0 = n1 := rfl
  rw [e] at g1
  have h0 := hr 0 _ rfl
  have h6 := hr 6 _ rfl
  have h7 := hr 7 _ rfl
  rw [g1.op] at h0
  rw [g1.lo] at h6
  rw [g1.hi] at h7
  exact ⟨b, off, rfl, h0, h6, h7⟩




end Go.Proofs.YtghjkbjpdjlddaaDoor.Sy
