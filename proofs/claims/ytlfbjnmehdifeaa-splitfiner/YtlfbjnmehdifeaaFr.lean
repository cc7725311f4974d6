/- How the arguments of the laws are opened: a set by value, a byte, a slice of bytes, a slice of sets. -/
import Derived.Test.YtlfbjnmehdifeaaRows
import Derived.Test.YtlfbjnmehdifeaaMem
import Derived.WalkKit
import Derived.ProofKit
import Derived.OpenShut
import Derived.ChangeOld
import Derived.Below
import Derived.Deep.Slices
namespace Go.Proofs.Ytlfbjnmehdifeaa
open Go.ChangeShapes Go.WideShapes Go.ChangeAt Go.RowKit

theorem own : ownKnob Try.prog.godebug = none := by kernel_rfl
theorem laidOut : laidOutB Try.prog = true := by kernel_rfl

/-- Any four words are those of a set. -/
theorem four_words (a0 a1 a2 a3 : Int) (h0 : 0 ≤ a0 ∧ a0 < 18446744073709551616) (h1 : 0 ≤ a1 ∧ a1 < 18446744073709551616) (h2 : 0 ≤ a2 ∧ a2 < 18446744073709551616) (h3 : 0 ≤ a3 ∧ a3 < 18446744073709551616) :
    ∃ p : Nat → Bool, a0 = W p 0 ∧ a1 = W p 1 ∧ a2 = W p 2 ∧ a3 = W p 3 := by
  let q : Nat → Int := fun i => if i = 0 then a0 else if i = 1 then a1 else if i = 2 then a2 else a3
  refine ⟨fun x => (q (x / 64)).toNat.testBit (x % 64), ?_, ?_, ?_, ?_⟩
  all_goals
    refine (W_of _ _ (by omega) (by omega)).trans (W_congr fun j hj => ?_)
  · rw [show (64 * 0 + j) / 64 = 0 from by omega, show (64 * 0 + j) % 64 = j from by omega, show 64 * 0 + j - 64 * 0 = j from by omega]; rfl
  · rw [show (64 * 1 + j) / 64 = 1 from by omega, show (64 * 1 + j) % 64 = j from by omega, show 64 * 1 + j - 64 * 1 = j from by omega]; rfl
  · rw [show (64 * 2 + j) / 64 = 2 from by omega, show (64 * 2 + j) % 64 = j from by omega, show 64 * 2 + j - 64 * 2 = j from by omega]; rfl
  · rw [show (64 * 3 + j) / 64 = 3 from by omega, show (64 * 3 + j) % 64 = j from by omega, show 64 * 3 + j - 64 * 3 = j from by omega]; rfl

section
variable {H : Type} {enc : TypeId × Value → H} {W0 : World} {base : Nat} {spare : Nat → Bool} {held : Bool}

theorem word_bounds {n : Int} (h : (Lit.int .u64 n).wf = true) : 0 ≤ n ∧ n < 18446744073709551616 := by
  have := bounds_u64 h; omega

/-- The cells of a set that was read. -/
theorem cells_set {fuel : Nat} {cs : List Value} {x : DataW H × List MemPlace} (h : DataW.trod enc Try.prog W0 base spare held fuel 33 cs = some x) :
    ∃ q : Nat → Bool, cs = [.int .u64 (W q 0), .int .u64 (W q 1), .int .u64 (W q 2), .int .u64 (W q 3)] := by
  obtain ⟨xs, m, _, _, hlen, hxl, hi⟩ := DataW.trod_array Try.underlying33 h
  have hC : Try.prog.cellsOf 33 = 4 := by kernel_rfl
  have hC1 : Try.prog.cellsOf 31 = 1 := by kernel_rfl
  rw [hC] at hlen
  rw [hC1] at hi
  match cs, hlen with
  | [c0, c1, c2, c3], _ =>
    have e : ∀ i, i < 4 → ∃ y, xs[i]? = some y := fun i hi => ⟨xs[i]'(by omega), List.getElem?_eq_getElem (by omega)⟩
    obtain ⟨y0, e0⟩ := e 0 (by omega)
    obtain ⟨y1, e1⟩ := e 1 (by omega)
    obtain ⟨y2, e2⟩ := e 2 (by omega)
    obtain ⟨y3, e3⟩ := e 3 (by omega)
    have t0 := (hi 0 (by omega)).trans e0
    have t1 := (hi 1 (by omega)).trans e1
    have t2 := (hi 2 (by omega)).trans e2
    have t3 := (hi 3 (by omega)).trans e3
    obtain ⟨a0, f0, _, w0⟩ := DataW.trod_int Try.underlying31 t0
    obtain ⟨a1, f1, _, w1⟩ := DataW.trod_int Try.underlying31 t1
    obtain ⟨a2, f2, _, w2⟩ := DataW.trod_int Try.underlying31 t2
    obtain ⟨a3, f3, _, w3⟩ := DataW.trod_int Try.underlying31 t3
    simp at f0 f1 f2 f3
    subst f0 f1 f2 f3
    obtain ⟨q, rfl, rfl, rfl, rfl⟩ := four_words a0 a1 a2 a3 (word_bounds w0) (word_bounds w1) (word_bounds w2) (word_bounds w3)
    exact ⟨q, rfl⟩

theorem open_set {r : Reach} {b0 : Nat} {v : Value} {d : DataW H} {p : List MemPlace} (hv : Value.okWide Try.prog W0 r b0 33 v) (h : DataW.Trod enc Try.prog W0 base spare held 33 v d p) :
    ∃ q : Nat → Bool, v = .agg #[.int .u64 (W (q) 0), .int .u64 (W (q) 1), .int .u64 (W (q) 2), .int .u64 (W (q) 3)] := by
  obtain ⟨fuel, hf⟩ := h
  have hv' : ∃ cs, v = .agg cs := by
    simp only [Value.okWide, Try.underlying33] at hv
    obtain ⟨cs, h1, _⟩ := hv
    exact ⟨cs, h1⟩
  obtain ⟨⟨l⟩, rfl⟩ := hv'
  obtain ⟨q, hq⟩ := cells_set hf
  simp [Value.cells] at hq
  exact ⟨q, by rw [hq]⟩

theorem plain_add (g off : Nat) (j : Nat) : (⟨g, off, none⟩ : Addr).add j = ⟨g, off + j, none⟩ := by
  unfold Addr.add
  split
  · subst_vars; rfl
  · rfl

/-- A slice of bytes that came in. -/
theorem open_bytes {r : Reach} {b0 : Nat} {v : Value} {d : DataW H} {p : List MemPlace} (hv : Value.okWide Try.prog W0 r b0 35 v) (h : DataW.Trod enc Try.prog W0 base spare held 35 v d p) :
    ∃ (A : Option Addr) (c : Nat) (xs : List Int), v = .slice A xs.length c ∧ Bts W0 W0.heap.size A xs ∧ xs.length ≤ c ∧ c ≤ maxLen := by
  obtain ⟨A, len, cap, rfl⟩ := okWide_slice Try.underlying35 hv
  obtain ⟨fuel, hf⟩ := h
  rcases open_ints Try.underlying35 Try.underlying5 (by kernel_rfl) hf with ⟨hcs, _⟩ | ⟨x, l, c, zs, hcs, _, hl, hm, hz, _, hcell, hwz⟩
  · simp [Value.cells] at hcs
    obtain ⟨rfl, rfl, rfl⟩ := hcs
    exact ⟨none, 0, [], rfl, ⟨by simp, fun h => absurd rfl h⟩, Nat.le_refl _, Nat.zero_le _⟩
  · simp [Value.cells] at hcs
    obtain ⟨rfl, rfl, rfl⟩ := hcs
    have hlz : len ≤ zs.length := by rw [hz]; split <;> omega
    have hxl : (zs.take len).length = len := by rw [List.length_take]; omega
    refine ⟨some x, cap, zs.take len, by rw [hxl], ⟨fun n hn => ?_, fun hne => ?_⟩, by rw [hxl]; exact hl, hm⟩
    · exact bounds_u8 (hwz n (List.mem_of_mem_take hn))
    · have hpos : 0 < len := by
        rcases Nat.eq_zero_or_pos len with e | e
        · subst e; exact absurd (by simp) hne
        · exact e
      have h0 := hcell 0 (by omega)
      obtain ⟨g, off, spot⟩ := x
      have hs : spot = none := by simpa [Addr.add] using World.cell?_spot h0
      subst hs
      refine ⟨g, off, rfl, World.block_lt_of_cell? W0 _ (by rw [plain_add] at h0; exact h0), fun i hi => ?_⟩
      rw [hxl] at hi
      have := hcell i (by omega)
      rw [plain_add] at this
      rw [this, List.getD_eq_getElem?_getD, List.getD_eq_getElem?_getD, List.getElem?_take, if_pos hi]

/-- A slice of sets that came in. -/
theorem open_sets {r : Reach} {b0 : Nat} {v : Value} {d : DataW H} {p : List MemPlace} (hv : Value.okWide Try.prog W0 r b0 22 v) (h : DataW.Trod enc Try.prog W0 base spare held 22 v d p) :
    ∃ (A : Option Addr) (c : Nat) (ps : List (Nat → Bool)), v = .slice A ps.length c ∧ Sts W0 W0.heap.size A ps ∧ ps.length ≤ c ∧ c ≤ maxLen := by
  obtain ⟨A, len, cap, rfl⟩ := okWide_slice Try.underlying22 hv
  obtain ⟨fuel, hf⟩ := h
  have hC : Try.prog.cellsOf 33 = 4 := by kernel_rfl
  rcases Go.Deep.open_slice Try.underlying22 hf with ⟨hcs, _⟩ | ⟨x, l, c, m, n, D, Pl, hcs, _, hl, hm, hmm, _, hi⟩
  · simp [Value.cells] at hcs
    obtain ⟨rfl, rfl, rfl⟩ := hcs
    exact ⟨none, 0, [], rfl, fun h => absurd rfl h, Nat.le_refl _, Nat.zero_le _⟩
  · simp [Value.cells] at hcs
    obtain ⟨rfl, rfl, rfl⟩ := hcs
    have hlm : len ≤ m := by rw [hmm]; split <;> omega
    rw [hC] at hi
    have hex : ∀ i, ∃ q : Nat → Bool, i < len → ∀ k, k < 4 → W0.cell? (x.add (i * 4 + k)) = some (.int .u64 (W q k)) := by
      intro i
      by_cases hil : i < len
      · obtain ⟨cs', hc, ht⟩ := hi i (by omega)
        obtain ⟨q, hq⟩ := cells_set ht
        obtain ⟨_, _, hat⟩ := World.cells?_some hc
        refine ⟨q, fun _ k hk => ?_⟩
        have := hat k hk
        rw [Go.Deep.add_add, hq] at this
        rw [this]
        have hk' : k = 0 ∨ k = 1 ∨ k = 2 ∨ k = 3 := by omega
        rcases hk' with rfl | rfl | rfl | rfl <;> rfl
      · exact ⟨fun _ => false, fun h => absurd h hil⟩
    obtain ⟨Q, hQ⟩ := Classical.axiomOfChoice hex
    have hpl : ((List.range len).map Q).length = len := by simp
    refine ⟨some x, cap, (List.range len).map Q, by rw [hpl], fun hne => ?_, by rw [hpl]; exact hl, hm⟩
    have hpos : 0 < len := by
      rcases Nat.eq_zero_or_pos len with e | e
      · subst e; exact absurd rfl hne
      · exact e
    have h0 := hQ 0 hpos 0 (by omega)
    obtain ⟨g, off, spot⟩ := x
    have hs : spot = none := by simpa [Addr.add] using World.cell?_spot h0
    subst hs
    refine ⟨g, off, rfl, World.block_lt_of_cell? W0 _ (by rw [plain_add] at h0; exact h0), fun i hi k hk => ?_⟩
    rw [hpl] at hi
    have := hQ i hi k hk
    rw [plain_add, ← Nat.add_assoc] at this
    rw [this, List.getD_eq_getElem?_getD, List.getElem?_map, List.getElem?_range hi]
    rfl
end

end Go.Proofs.Ytlfbjnmehdifeaa
