/- A slice of bools that came in, opened. -/
import Derived.Test.YtblanbopjebenaaOg
import Derived.Test.YtblanbopjebenaaKj
namespace Go.Proofs.Ytblanbopjebenaa
open Go.ChangeShapes Go.WideShapes Go.ChangeAt Go.RowKit

section
variable {H : Type} {enc : TypeId × Value → H} {W0 : World} {base : Nat} {spare : Nat → Bool} {held : Bool}
theorem open_bls {r : Reach} {b0 : Nat} {v : Value} {d : DataW H} {p : List MemPlace} (hv : Value.okWide Try.prog W0 r b0 38 v) (h : DataW.Trod enc Try.prog W0 base spare held 38 v d p) :
    ∃ (A : Option Addr) (c : Nat) (bs : List Bool), v = .slice A bs.length c ∧ Bls W0 W0.heap.size A bs ∧ bs.length ≤ c ∧ c ≤ maxLen := by
  obtain ⟨A, len, cap, rfl⟩ := okWide_slice Try.underlying38 hv
  obtain ⟨fuel, hf⟩ := h
  have hC : Try.prog.cellsOf 4 = 1 := by kernel_rfl
  rcases Go.Deep.open_slice1 Try.underlying38 hC hf with ⟨hcs, _⟩ | ⟨x, l, c, m, n, V, D, Pl, hcs, _, hl, hm, hmm, _, hi⟩
  · simp [Value.cells] at hcs
    obtain ⟨rfl, rfl, rfl⟩ := hcs
    exact ⟨none, 0, [], rfl, fun h => absurd rfl h, Nat.le_refl _, Nat.zero_le _⟩
  · simp [Value.cells] at hcs
    obtain ⟨rfl, rfl, rfl⟩ := hcs
    have hlm : len ≤ m := by rw [hmm]; split <;> omega
    have hex : ∀ i, ∃ b : Bool, i < len → W0.cell? (x.add i) = some (.bool b) := by
      intro i
      by_cases hil : i < len
      · obtain ⟨hc, ht⟩ := hi i (by omega)
        obtain ⟨b, hb, _⟩ := DataW.trod_bool Try.underlying4 ht
        refine ⟨b, fun _ => ?_⟩
        rw [hc]
        simp at hb
        rw [hb]
      · exact ⟨false, fun h => absurd h hil⟩
    obtain ⟨Q, hQ⟩ := Classical.axiomOfChoice hex
    have hpl : ((List.range len).map Q).length = len := by simp
    refine ⟨some x, cap, (List.range len).map Q, by rw [hpl], fun hne => ?_, by rw [hpl]; exact hl, hm⟩
    have hpos : 0 < len := by
      rcases Nat.eq_zero_or_pos len with e | e
      · subst e; exact absurd rfl hne
      · exact e
    have h0 := hQ 0 hpos
    obtain ⟨g, off, spot⟩ := x
    have hs : spot = none := by simpa [Addr.add] using World.cell?_spot h0
    subst hs
    refine ⟨g, off, rfl, World.block_lt_of_cell? W0 _ (by rw [plain_add] at h0; exact h0), fun i hi => ?_⟩
    rw [hpl] at hi
    have := hQ i hi
    rw [plain_add] at this
    rw [this, List.getD_eq_getElem?_getD, List.getElem?_map, List.getElem?_range hi]
    rfl
end

end Go.Proofs.Ytblanbopjebenaa
