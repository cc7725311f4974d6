/- A Split that came in, opened. -/
import Derived.Test.YtlfbjnmehdifeaaXf
import Derived.Test.YtlfbjnmehdifeaaFr
namespace Go.Proofs.Ytlfbjnmehdifeaa
open Go.RowKit

theorem split_pair : ∃ f0 f1, Try.prog.fieldsOf 26 = #[f0, f1] ∧ f0.type = 24 ∧ f0.offset = 0 ∧ f1.type = 3 ∧ f1.offset = 256 := by
  obtain ⟨f0, f1, hl, _, t0, o0, _, t1, o1⟩ := split_fields'
  refine ⟨f0, f1, ?_, t0, o0, t1, o1⟩
  generalize Try.prog.fieldsOf 26 = l at *
  cases l
  simp at hl
  rw [hl]

section
variable {H : Type} {enc : TypeId × Value → H} {W0 : World} {base : Nat} {spare : Nat → Bool} {held : Bool}

theorem cells_split {fuel : Nat} {cs : List Value} {x : DataW H × List MemPlace} (h : DataW.trod enc Try.prog W0 base spare held fuel 26 cs = some x) :
    ∃ (f : Nat → Int) (m : Int), cs = (spC f m).toList ∧ (∀ i, i < 256 → 0 ≤ f i ∧ f i ≤ 255) ∧ -9223372036854775808 ≤ m ∧ m ≤ 9223372036854775807 := by
  obtain ⟨f0, f1, hl, t0, o0, t1, o1⟩ := split_pair
  have hu := split_under
  rw [hl] at hu
  obtain ⟨ys, n, _, _, hlen, hyl, hfi⟩ := DataW.trod_struct hu h
  have g0 : ys[0]? = some (ys[0]'(by rw [hyl]; simp)) := List.getElem?_eq_getElem _
  have g1 : ys[1]? = some (ys[1]'(by rw [hyl]; simp)) := List.getElem?_eq_getElem _
  have h0 := (hfi 0 f0 rfl).trans g0
  have h1 := (hfi 1 f1 rfl).trans g1
  have hC : Try.prog.cellsOf 26 = 257 := by kernel_rfl
  have hC1 : Try.prog.cellsOf 3 = 1 := by kernel_rfl
  have hC2 : Try.prog.cellsOf 5 = 1 := u8_cells
  rw [hC] at hlen
  rw [t0, o0, row_cells, List.drop_zero] at h0
  rw [t1, o1, hC1] at h1
  obtain ⟨m, e1, _, wm⟩ := DataW.trod_int Try.underlying3 h1
  obtain ⟨xs, k, _, _, hl2, hxl, hi⟩ := DataW.trod_array Try.underlying24 h0
  have each : ∀ i, i < 256 → ∃ a : Int, cs[i]? = some (.int .u8 a) ∧ 0 ≤ a ∧ a ≤ 255 := by
    intro i hi256
    have hx : xs[i]? = some (xs[i]'(by omega)) := List.getElem?_eq_getElem (by omega)
    have ht := (hi i hi256).trans hx
    obtain ⟨a, ea, _, wa⟩ := DataW.trod_int Try.underlying5 ht
    refine ⟨a, ?_, (bounds_u8 wa).1, (bounds_u8 wa).2⟩
    have h2 := congrArg (·[0]?) ea
    rw [hC2] at h2
    simp only [Nat.mul_one, List.getElem?_cons_zero] at h2
    rw [List.getElem?_take, if_pos (by omega), List.getElem?_drop, Nat.add_zero, List.getElem?_take, if_pos hi256] at h2
    exact h2
  have e2 : cs[256]? = some (.int .i64 m) := by
    have h2 := congrArg (·[0]?) e1
    simp only [List.getElem?_cons_zero] at h2
    rw [List.getElem?_take, if_pos (by omega), List.getElem?_drop, Nat.add_zero] at h2
    exact h2
  have hch : ∃ f : Nat → Int, ∀ i, i < 256 → cs[i]? = some (.int .u8 (f i)) ∧ 0 ≤ f i ∧ f i ≤ 255 :=
    ⟨fun i => if h : i < 256 then (each i h).choose else 0, fun i h => by simp only [h, dite_true]; exact (each i h).choose_spec⟩
  obtain ⟨f, hf⟩ := hch
  refine ⟨f, m, ?_, fun i h => (hf i h).2, (bounds_i64 wm).1, (bounds_i64 wm).2⟩
  apply List.ext_getElem?
  intro i
  have hto : (spC f m).toList[i]? = (spC f m)[i]? := Array.getElem?_toList
  rw [hto]
  by_cases h2 : i < 256
  · rw [spC_at _ _ _ h2]; exact (hf i h2).1
  · by_cases h3 : i = 256
    · subst h3; rw [spC_many]; exact e2
    · rw [List.getElem?_eq_none (by omega), Array.getElem?_eq_none (by rw [spC_size]; omega)]

theorem open_split {r : Reach} {b0 : Nat} {v : Value} {d : DataW H} {p : List MemPlace} (hv : Value.okWide Try.prog W0 r b0 26 v) (h : DataW.Trod enc Try.prog W0 base spare held 26 v d p) :
    ∃ (f : Nat → Int) (m : Int), v = .agg (spC f m) ∧ (∀ i, i < 256 → 0 ≤ f i ∧ f i ≤ 255) ∧ -9223372036854775808 ≤ m ∧ m ≤ 9223372036854775807 := by
  obtain ⟨fuel, hf⟩ := h
  have hv' : ∃ cs, v = .agg cs := by
    simp only [Value.okWide, Try.underlying26] at hv
    obtain ⟨cs, h1, _⟩ := hv
    exact ⟨cs, h1⟩
  obtain ⟨⟨l⟩, rfl⟩ := hv'
  obtain ⟨f, m, hq, hb, hm⟩ := cells_split hf
  refine ⟨f, m, ?_, hb, hm⟩
  simp [Value.cells] at hq
  rw [hq]
end

end Go.Proofs.Ytlfbjnmehdifeaa
