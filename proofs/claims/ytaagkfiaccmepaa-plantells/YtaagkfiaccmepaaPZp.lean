/- A slice of nodes, and one of Defs, that came in, opened (for a row that lists no variables: no Tx). -/
import Derived.Test.YtaagkfiaccmepaaPAg
import Derived.Test.YtaagkfiaccmepaaPSe
import Derived.Test.YtaagkfiaccmepaaPAn
import Derived.Test.YtaagkfiaccmepaaPM4
namespace Go.Proofs.Ytaagkfiaccmepaa
open Go.ChangeShapes Go.WideShapes Go.ChangeAt Go.RowKit
set_option maxRecDepth 100000
set_option linter.unusedVariables false

/-- Any four words are those of a set. -/
theorem four_words (a0 a1 a2 a3 : Int) (h0 : 0 ≤ a0 ∧ a0 < 18446744073709551616) (h1 : 0 ≤ a1 ∧ a1 < 18446744073709551616) (h2 : 0 ≤ a2 ∧ a2 < 18446744073709551616) (h3 : 0 ≤ a3 ∧ a3 < 18446744073709551616) :
    ∃ p : Nat → Bool, a0 = W p 0 ∧ a1 = W p 1 ∧ a2 = W p 2 ∧ a3 = W p 3 := by
  let q : Nat → Int := fun i => if i = 0 then a0 else if i = 1 then a1 else if i = 2 then a2 else a3
  refine ⟨fun x => (q (x / 64)).toNat.testBit (x % 64), ?_, ?_, ?_, ?_⟩
  all_goals
    refine (W_of _ _ (by omega) (by omega)).trans (W_congr fun j hj => ?_)
  · rw [show (64 * 0 + j) / 64 = 0 from by omega, show (64 * 0 + j) % 64 = j from by omega, show 64 * 0 + j - 64 * 0 = j from by omega]; rfl
  · rw [show (64 * 1 + j) / 64 = 1 from by omega, show (64 * 1 + j) % 64 = j from by omega, show 64 * 1 + j - 64 * 1 = j from by omega]; rfl
  · rw [show (64 * 2 + j) / 64 = 2 from by omega, show (64 * 2 + j) % 64 = j from by omega, show 64 * 2 + j - 64 * 2 = j from by omega]; rfl
  · rw [show (64 * 3 + j) / 64 = 3 from by omega, show (64 * 3 + j) % 64 = j from by omega, show 64 * 3 + j - 64 * 3 = j from by omega]; rfl

section
variable {H : Type} {enc : TypeId × Value → H} {W0 : World} {base : Nat} {spare : Nat → Bool} {held : Bool}

theorem word_bounds {n : Int} (h : (Lit.int .u64 n).wf = true) : 0 ≤ n ∧ n < 18446744073709551616 := by
  have := bounds_u64 h; omega
/-- The cells of a set that was read. -/
theorem cells_set {fuel : Nat} {cs : List Value} {x : DataW H × List MemPlace} (h : DataW.trod enc Try.prog W0 base spare held fuel 36 cs = some x) :
    ∃ q : Nat → Bool, cs = [.int .u64 (W q 0), .int .u64 (W q 1), .int .u64 (W q 2), .int .u64 (W q 3)] := by
  obtain ⟨xs, m, _, _, hlen, hxl, hi⟩ := DataW.trod_array Try.underlying36 h
  have hC : Try.prog.cellsOf 36 = 4 := by kernel_rfl
  have hC1 : Try.prog.cellsOf 34 = 1 := by kernel_rfl
  rw [hC] at hlen
  rw [hC1] at hi
  match cs, hlen with
  | [c0, c1, c2, c3], _ =>
    have e : ∀ i, i < 4 → ∃ y, xs[i]? = some y := fun i hi => ⟨xs[i]'(by omega), List.getElem?_eq_getElem (by omega)⟩
    obtain ⟨y0, e0⟩ := e 0 (by omega)
    obtain ⟨y1, e1⟩ := e 1 (by omega)
    obtain ⟨y2, e2⟩ := e 2 (by omega)
    obtain ⟨y3, e3⟩ := e 3 (by omega)
    have t0 := (hi 0 (by omega)).trans e0
    have t1 := (hi 1 (by omega)).trans e1
    have t2 := (hi 2 (by omega)).trans e2
    have t3 := (hi 3 (by omega)).trans e3
    obtain ⟨a0, f0, _, w0⟩ := DataW.trod_int Try.underlying34 t0
    obtain ⟨a1, f1, _, w1⟩ := DataW.trod_int Try.underlying34 t1
    obtain ⟨a2, f2, _, w2⟩ := DataW.trod_int Try.underlying34 t2
    obtain ⟨a3, f3, _, w3⟩ := DataW.trod_int Try.underlying34 t3
    simp at f0 f1 f2 f3
    subst f0 f1 f2 f3
    obtain ⟨q, rfl, rfl, rfl, rfl⟩ := four_words a0 a1 a2 a3 (word_bounds w0) (word_bounds w1) (word_bounds w2) (word_bounds w3)
    exact ⟨q, rfl⟩
/-- A slice of ints that was read. -/
theorem cells_ints {fuel : Nat} {cs : List Value} {x : DataW H × List MemPlace} (h : DataW.trod enc Try.prog W0 base spare held fuel 37 cs = some x) :
    ∃ (A : Option Addr) (c : Nat) (xs : List Int), cs = [.slice A xs.length c] ∧ Sy.Its W0 W0.heap.size A xs ∧ xs.length ≤ maxLen := by
  rcases open_ints Try.underlying37 Try.underlying3 (by kernel_rfl) h with ⟨hcs, _⟩ | ⟨x, l, c, zs, hcs, _, hl, hm, hz, _, hcell, _⟩
  · exact ⟨none, 0, [], hcs, fun h => absurd rfl h, Nat.zero_le _⟩
  · have hlz : l ≤ zs.length := by rw [hz]; split <;> omega
    have hxl : (zs.take l).length = l := by rw [List.length_take]; omega
    refine ⟨some x, c, zs.take l, by rw [hxl]; exact hcs, fun hne => ?_, by rw [hxl]; omega⟩
    have hpos : 0 < l := by
      rcases Nat.eq_zero_or_pos l with e | e
      · subst e; exact absurd (by simp) hne
      · exact e
    have h0 := hcell 0 (by omega)
    obtain ⟨g, off, spot⟩ := x
    have hs : spot = none := by simpa [Addr.add] using World.cell?_spot h0
    subst hs
    refine ⟨g, off, rfl, World.block_lt_of_cell? W0 _ (by rw [plain_add] at h0; exact h0), fun i hi => ?_⟩
    rw [hxl] at hi
    have := hcell i (by omega)
    rw [plain_add] at this
    rw [this, List.getD_eq_getElem?_getD, List.getD_eq_getElem?_getD, List.getElem?_take, if_pos hi]
/-- The cells of a node that was read. -/
theorem cells_node {fuel : Nat} {cs : List Value} {x : DataW H × List MemPlace} (h : DataW.trod enc Try.prog W0 base spare held fuel 39 cs = some x) :
    ∃ (g : Sy.Gd) (A : Option Addr) (c : Nat), cs = Sy.gdL g A c ∧ Sy.Its W0 W0.heap.size A g.l ∧ g.nm.size ≤ maxLen ∧ g.l.length ≤ maxLen := by
  obtain ⟨xs, m, _, _, hlen, hxl, hi⟩ := DataW.trod_struct Try.underlying39 h
  have hC : Try.prog.cellsOf 39 = 9 := by kernel_rfl
  have k1 : Try.prog.cellsOf 36 = 4 := by kernel_rfl
  have k2 : Try.prog.cellsOf 37 = 1 := by kernel_rfl
  have k3 : Try.prog.cellsOf 3 = 1 := by kernel_rfl
  have k5 : Try.prog.cellsOf 5 = 1 := by kernel_rfl
  have k9 : Try.prog.cellsOf 9 = 1 := by kernel_rfl
  rw [hC] at hlen
  have e : ∀ i, i < 6 → ∃ y, xs[i]? = some y := fun i hi => ⟨xs[i]'(by rw [hxl]; exact hi), List.getElem?_eq_getElem _⟩
  match cs, hlen with
  | [c0, c1, c2, c3, c4, c5, c6, c7, c8], _ =>
    obtain ⟨y0, e0⟩ := e 0 (by omega)
    obtain ⟨y1, e1⟩ := e 1 (by omega)
    obtain ⟨y2, e2⟩ := e 2 (by omega)
    obtain ⟨y3, e3⟩ := e 3 (by omega)
    obtain ⟨y4, e4⟩ := e 4 (by omega)
    obtain ⟨y5, e5⟩ := e 5 (by omega)
    have t0 : DataW.trod enc Try.prog W0 base spare held m 5 [c0] = some y0 := by
      have t := (hi 0 _ rfl).trans e0
      change DataW.trod enc Try.prog W0 base spare held m 5 (List.take (Try.prog.cellsOf 5) _) = _ at t
      rw [k5] at t
      exact t
    have t1 : DataW.trod enc Try.prog W0 base spare held m 36 [c1, c2, c3, c4] = some y1 := by
      have t := (hi 1 _ rfl).trans e1
      change DataW.trod enc Try.prog W0 base spare held m 36 (List.take (Try.prog.cellsOf 36) _) = _ at t
      rw [k1] at t
      exact t
    have t2 : DataW.trod enc Try.prog W0 base spare held m 37 [c5] = some y2 := by
      have t := (hi 2 _ rfl).trans e2
      change DataW.trod enc Try.prog W0 base spare held m 37 (List.take (Try.prog.cellsOf 37) _) = _ at t
      rw [k2] at t
      exact t
    have t3 : DataW.trod enc Try.prog W0 base spare held m 3 [c6] = some y3 := by
      have t := (hi 3 _ rfl).trans e3
      change DataW.trod enc Try.prog W0 base spare held m 3 (List.take (Try.prog.cellsOf 3) _) = _ at t
      rw [k3] at t
      exact t
    have t4 : DataW.trod enc Try.prog W0 base spare held m 3 [c7] = some y4 := by
      have t := (hi 4 _ rfl).trans e4
      change DataW.trod enc Try.prog W0 base spare held m 3 (List.take (Try.prog.cellsOf 3) _) = _ at t
      rw [k3] at t
      exact t
    have t5 : DataW.trod enc Try.prog W0 base spare held m 9 [c8] = some y5 := by
      have t := (hi 5 _ rfl).trans e5
      change DataW.trod enc Try.prog W0 base spare held m 9 (List.take (Try.prog.cellsOf 9) _) = _ at t
      rw [k9] at t
      exact t
    obtain ⟨a0, f0, _, _⟩ := DataW.trod_int Try.underlying5 t0
    obtain ⟨q, f1⟩ := cells_set t1
    obtain ⟨A, c, l, f2, hI, hll⟩ := cells_ints t2
    obtain ⟨a3, f3, _, _⟩ := DataW.trod_int Try.underlying3 t3
    obtain ⟨a4, f4, _, _⟩ := DataW.trod_int Try.underlying3 t4
    obtain ⟨nm, f5, _, hns⟩ := DataW.trod_string Try.underlying9 t5
    cases f0
    cases f1
    cases f2
    cases f3
    cases f4
    cases f5
    exact ⟨⟨a0, q, l, a3, a4, nm⟩, A, c, rfl, hI, hns, hll⟩

/-- The cells of a slice of nodes. -/
theorem cells_nodes {fuel : Nat} {cs : List Value} {y : DataW H × List MemPlace} (hf : DataW.trod enc Try.prog W0 base spare held fuel 22 cs = some y) :
    ∃ (A : Option Addr) (c : Nat) (gs : List Sy.Gd), cs = [.slice A gs.length c] ∧ Sy.Nds W0 W0.heap.size A gs ∧ gs.length ≤ c ∧ c ≤ maxLen ∧ ∀ g ∈ gs, g.nm.size ≤ maxLen ∧ g.l.length ≤ maxLen := by
  have hC : Try.prog.cellsOf 39 = 9 := by kernel_rfl
  rcases Go.Deep.open_slice Try.underlying22 hf with ⟨hcs, _⟩ | ⟨x, len, cap, m, n, D, Pl, hcs, _, hl, hm, hmm, _, hi⟩
  · subst hcs
    exact ⟨none, 0, [], rfl, fun h => absurd rfl h, Nat.le_refl _, Nat.zero_le _, fun g hg => by cases hg⟩
  · subst hcs
    have hlm : len ≤ m := by rw [hmm]; split <;> omega
    rw [hC] at hi
    have hex : ∀ i, ∃ q : Sy.Gd × Option Addr × Nat, i < len → (∀ k, k < 9 → W0.cell? (x.add (i * 9 + k)) = (Sy.gdL q.1 q.2.1 q.2.2)[k]?) ∧ Sy.Its W0 W0.heap.size q.2.1 q.1.l ∧ q.1.nm.size ≤ maxLen ∧ q.1.l.length ≤ maxLen := by
      intro i
      by_cases hil : i < len
      · obtain ⟨cs', hc, ht⟩ := hi i (by omega)
        obtain ⟨g, A', c', rfl, hI, h1, h2⟩ := cells_node ht
        obtain ⟨_, _, hat⟩ := World.cells?_some hc
        refine ⟨⟨g, A', c'⟩, fun _ => ⟨fun k hk => ?_, hI, h1, h2⟩⟩
        have := hat k hk
        rw [Go.Deep.add_add] at this
        rw [this]
      · exact ⟨⟨Sy.gd0, none, 0⟩, fun h => absurd h hil⟩
    obtain ⟨Q, hQ⟩ := Classical.axiomOfChoice hex
    have hpl : ((List.range len).map fun i => (Q i).1).length = len := by simp
    refine ⟨some x, cap, (List.range len).map fun i => (Q i).1, by rw [hpl], fun hne => ?_, by rw [hpl]; exact hl, hm, fun g hg => ?_⟩
    · have hpos : 0 < len := by
        rcases Nat.eq_zero_or_pos len with e | e
        · subst e; exact absurd rfl hne
        · exact e
      have h0 := (hQ 0 hpos).1 0 (by omega)
      rw [show (Sy.gdL (Q 0).1 (Q 0).2.1 (Q 0).2.2)[0]? = some (.int .u8 (Q 0).1.op) from rfl] at h0
      obtain ⟨g, off, spot⟩ := x
      have hs : spot = none := by simpa [Addr.add] using World.cell?_spot h0
      subst hs
      refine ⟨g, off, rfl, World.block_lt_of_cell? W0 _ (by rw [plain_add] at h0; exact h0), fun i hi => ?_⟩
      rw [hpl] at hi
      have hqi := hQ i hi
      rw [List.getD_eq_getElem?_getD, List.getElem?_map, List.getElem?_range hi]
      refine ⟨(Q i).2.1, (Q i).2.2, hqi.2.1, fun k v hv => ?_⟩
      have hk : k < 9 := by
        rcases Nat.lt_or_ge k 9 with q | q
        · exact q
        · rw [List.getElem?_eq_none (by exact q)] at hv; cases hv
      have := hqi.1 k hk
      rw [plain_add, ← Nat.add_assoc] at this
      exact this.trans hv
    · obtain ⟨i, hi, rfl⟩ := List.mem_map.1 hg
      exact (hQ i (List.mem_range.1 hi)).2.2

theorem open_nodes {r : Reach} {b0 : Nat} {v : Value} {d : DataW H} {p : List MemPlace} (hv : Value.okWide Try.prog W0 r b0 22 v) (h : DataW.Trod enc Try.prog W0 base spare held 22 v d p) :
    ∃ (A : Option Addr) (c : Nat) (gs : List Sy.Gd), v = .slice A gs.length c ∧ Sy.Nds W0 W0.heap.size A gs ∧ gs.length ≤ c ∧ c ≤ maxLen ∧ ∀ g ∈ gs, g.nm.size ≤ maxLen ∧ g.l.length ≤ maxLen := by
  obtain ⟨A, len, cap, rfl⟩ := okWide_slice Try.underlying22 hv
  obtain ⟨fuel, hf⟩ := h
  obtain ⟨A', c, gs, hcs, h1⟩ := cells_nodes hf
  simp [Value.cells] at hcs
  obtain ⟨rfl, rfl, rfl⟩ := hcs
  exact ⟨_, _, gs, rfl, h1⟩
end

end Go.Proofs.Ytaagkfiaccmepaa
