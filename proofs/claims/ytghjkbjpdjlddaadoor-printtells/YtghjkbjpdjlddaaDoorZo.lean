/- A set that came in, opened. -/
import Derived.Test.YtghjkbjpdjlddaaDoorZn
namespace Go.Proofs.YtghjkbjpdjlddaaDoor
open Go.ChangeShapes Go.WideShapes Go.ChangeAt Go.RowKit
set_option maxRecDepth 100000
theorem open_set {H : Type} {enc : TypeId × Value → H} {W0 : World} {base : Nat} {spare : Nat → Bool} {held : Bool} {r : Reach} {b0 : Nat} {v : Value} {d : DataW H} {p : List MemPlace} (hv : Value.okWide Tryd.prog W0 r b0 28 v) (h : DataW.Trod enc Tryd.prog W0 base spare held 28 v d p) :
    ∃ q : Nat → Bool, v = .agg #[.int .u64 (W (q) 0), .int .u64 (W (q) 1), .int .u64 (W (q) 2), .int .u64 (W (q) 3)] := by
  obtain ⟨fuel, hf⟩ := h
  have hv' : ∃ cs, v = .agg cs := by
    simp only [Value.okWide, Tryd.underlying28] at hv
    obtain ⟨cs, h1, _⟩ := hv
    exact ⟨cs, h1⟩
  obtain ⟨⟨l⟩, rfl⟩ := hv'
  obtain ⟨q, hq⟩ := cells_set hf
  simp [Value.cells] at hq
  exact ⟨q, by rw [hq]⟩
end Go.Proofs.YtghjkbjpdjlddaaDoor
