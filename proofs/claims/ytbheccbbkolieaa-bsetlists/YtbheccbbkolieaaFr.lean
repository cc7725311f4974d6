/- How the arguments of the laws are opened: a set by value, a byte, a slice of bytes, a slice of sets. -/
import Derived.Test.YtbheccbbkolieaaRows
import Derived.Test.YtbheccbbkolieaaMem
import Derived.WalkKit
import Derived.ProofKit
import Derived.OpenShut
import Derived.ChangeOld
import Derived.Below
import Derived.Deep.Slices
namespace Go.Proofs.Ytbheccbbkolieaa
open Go.ChangeShapes Go.WideShapes Go.ChangeAt Go.RowKit

theorem own : ownKnob Try.prog.godebug = none := by kernel_rfl
theorem laidOut : laidOutB Try.prog = true := by kernel_rfl

/-- Any four words are those of a set. -/
theorem four_words (a0 a1 a2 a3 : Int) (h0 : 0 ≤ a0 ∧ a0 < 18446744073709551616) (h1 : 0 ≤ a1 ∧ a1 < 18446744073709551616) (h2 : 0 ≤ a2 ∧ a2 < 18446744073709551616) (h3 : 0 ≤ a3 ∧ a3 < 18446744073709551616) :
    ∃ p : Nat → Bool, a0 = W p 0 ∧ a1 = W p 1 ∧ a2 = W p 2 ∧ a3 = W p 3 := by
  let q : Nat → Int := fun i => if i = 0 then a0 else if i = 1 then a1 else if i = 2 then a2 else a3
  refine ⟨fun x => (q (x / 64)).toNat.testBit (x % 64), ?_, ?_, ?_, ?_⟩
  all_goals
    refine (W_of _ _ (by omega) (by omega)).trans (W_congr fun j hj => ?_)
  · rw [show (64 * 0 + j) / 64 = 0 from by omega, show (64 * 0 + j) % 64 = j from by omega, show 64 * 0 + j - 64 * 0 = j from by omega]; rfl
  · rw [show (64 * 1 + j) / 64 = 1 from by omega, show (64 * 1 + j) % 64 = j from by omega, show 64 * 1 + j - 64 * 1 = j from by omega]; rfl
  · rw [show (64 * 2 + j) / 64 = 2 from by omega, show (64 * 2 + j) % 64 = j from by omega, show 64 * 2 + j - 64 * 2 = j from by omega]; rfl
  · rw [show (64 * 3 + j) / 64 = 3 from by omega, show (64 * 3 + j) % 64 = j from by omega, show 64 * 3 + j - 64 * 3 = j from by omega]; rfl

section
variable {H : Type} {enc : TypeId × Value → H} {W0 : World} {base : Nat} {spare : Nat → Bool} {held : Bool}

theorem word_bounds {n : Int} (h : (Lit.int .u64 n).wf = true) : 0 ≤ n ∧ n < 18446744073709551616 := by
  have := bounds_u64 h; omega

/-- The cells of a set that was read. -/
theorem cells_set {fuel : Nat} {cs : List Value} {x : DataW H × List MemPlace} (h : DataW.trod enc Try.prog W0 base spare held fuel 27 cs = some x) :
    ∃ q : Nat → Bool, cs = [.int .u64 (W q 0), .int .u64 (W q 1), .int .u64 (W q 2), .int .u64 (W q 3)] := by
  obtain ⟨xs, m, _, _, hlen, hxl, hi⟩ := DataW.trod_array Try.underlying27 h
  have hC : Try.prog.cellsOf 27 = 4 := by kernel_rfl
  have hC1 : Try.prog.cellsOf 25 = 1 := by kernel_rfl
  rw [hC] at hlen
  rw [hC1] at hi
  match cs, hlen with
  | [c0, c1, c2, c3], _ =>
    have e : ∀ i, i < 4 → ∃ y, xs[i]? = some y := fun i hi => ⟨xs[i]'(by omega), List.getElem?_eq_getElem (by omega)⟩
    obtain ⟨y0, e0⟩ := e 0 (by omega)
    obtain ⟨y1, e1⟩ := e 1 (by omega)
    obtain ⟨y2, e2⟩ := e 2 (by omega)
    obtain ⟨y3, e3⟩ := e 3 (by omega)
    have t0 := (hi 0 (by omega)).trans e0
    have t1 := (hi 1 (by omega)).trans e1
    have t2 := (hi 2 (by omega)).trans e2
    have t3 := (hi 3 (by omega)).trans e3
    obtain ⟨a0, f0, _, w0⟩ := DataW.trod_int Try.underlying25 t0
    obtain ⟨a1, f1, _, w1⟩ := DataW.trod_int Try.underlying25 t1
    obtain ⟨a2, f2, _, w2⟩ := DataW.trod_int Try.underlying25 t2
    obtain ⟨a3, f3, _, w3⟩ := DataW.trod_int Try.underlying25 t3
    simp at f0 f1 f2 f3
    subst f0 f1 f2 f3
    obtain ⟨q, rfl, rfl, rfl, rfl⟩ := four_words a0 a1 a2 a3 (word_bounds w0) (word_bounds w1) (word_bounds w2) (word_bounds w3)
    exact ⟨q, rfl⟩

theorem open_set {r : Reach} {b0 : Nat} {v : Value} {d : DataW H} {p : List MemPlace} (hv : Value.okWide Try.prog W0 r b0 27 v) (h : DataW.Trod enc Try.prog W0 base spare held 27 v d p) :
    ∃ q : Nat → Bool, v = .agg #[.int .u64 (W (q) 0), .int .u64 (W (q) 1), .int .u64 (W (q) 2), .int .u64 (W (q) 3)] := by
  obtain ⟨fuel, hf⟩ := h
  have hv' : ∃ cs, v = .agg cs := by
    simp only [Value.okWide, Try.underlying27] at hv
    obtain ⟨cs, h1, _⟩ := hv
    exact ⟨cs, h1⟩
  obtain ⟨⟨l⟩, rfl⟩ := hv'
  obtain ⟨q, hq⟩ := cells_set hf
  simp [Value.cells] at hq
  exact ⟨q, by rw [hq]⟩
end

end Go.Proofs.Ytbheccbbkolieaa
