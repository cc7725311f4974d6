/- Nodes in memory; the reference's Same. -/
import Derived.Test.YtghjkbjpdjlddaaDoorWb
import Derived.Test.YtghjkbjpdjlddaaDoorEq
import Derived.Test.YtghjkbjpdjlddaaDoorVv
import Derived.Deep.MidRow
import Derived.Deep.DeepCutAuto
import Derived.Deep.QuietTactic
import Derived.BigQuiet
namespace Go.Proofs.YtghjkbjpdjlddaaDoor.Sy
open Go.RowKit

/-- A string's bytes. -/
def bs (b : ByteArray) : List Nat := b.data.toList.map (·.toNat)
/-- A node as memory has it: any numbers, any bytes. -/
structure Gd where
  op : Int
  s : Nat → Bool
  l : List Int
  lo : Int
  hi : Int
  nm : ByteArray
def gd0 : Gd := ⟨0, noB, [], 0, 0, ByteArray.empty⟩
def gdL (g : Gd) (A : Option Addr) (c : Nat) : List Value :=
  [.int .u8 g.op, .int .u64 (W g.s 0), .int .u64 (W g.s 1), .int .u64 (W g.s 2), .int .u64 (W g.s 3), .slice A g.l.length c, .int .i64 g.lo, .int .i64 g.hi, .string g.nm]
theorem gdL_info (g : Gd) (A : Option Addr) (c : Nat) : (Tryd.prog.info? 30).map (·.size) = some (gdL g A c).length := by
  show _ = some 9
  kernel_rfl
theorem gdL_infoA (g : Gd) (A : Option Addr) (c : Nat) : (Tryd.prog.info? 30).map (·.size) = some (gdL g A c).toArray.size := gdL_info g A c
theorem gdL_one (g : Gd) (A : Option Addr) (c : Nat) : (gdL g A c).toArray.all (·.oneCell') = true := by simp [gdL, Value.oneCell']

/-- The slice at A reads as the numbers xs. -/
def Its (w : World) (B : Nat) (A : Option Addr) (xs : List Int) : Prop :=
  xs ≠ [] → ∃ g off, A = some ⟨g, off, none⟩ ∧ g < B ∧ ∀ i, i < xs.length → w.cell? ⟨g, off + i, none⟩ = some (.int .i64 (xs.getD i 0))
/-- A node lies in block b from off on. -/
def NdC (w : World) (B b off : Nat) (g : Gd) : Prop := ∃ A c, Its w B A g.l ∧ w.rangeAt b off (gdL g A c)
/-- The slice at A reads as the nodes gs. -/
def Nds (w : World) (B : Nat) (A : Option Addr) (gs : List Gd) : Prop :=
  gs ≠ [] → ∃ b off, A = some ⟨b, off, none⟩ ∧ b < B ∧ ∀ i, i < gs.length → NdC w B b (off + i * 9) (gs.getD i gd0)
section
variable {w w' : World} {B B' : Nat} {A : Option Addr} {xs : List Int} {gs : List Gd}
theorem Its.keep (h : Its w B A xs) (hc : ∀ p : Addr, p.block < B → w'.cell? p = w.cell? p) : Its w' B A xs := fun hx => by
  obtain ⟨g, off, e, hg, ha⟩ := h hx
  exact ⟨g, off, e, hg, fun i hi => (hc _ hg).trans (ha i hi)⟩
theorem Its.more (h : Its w B A xs) (hB : B ≤ B') : Its w B' A xs := fun hx => by
  obtain ⟨g, off, e, hg, ha⟩ := h hx
  exact ⟨g, off, e, by omega, ha⟩
theorem Its.at_ (h : Its w B A xs) {k : Nat} (hk : k < xs.length) : ∃ g off, A = some ⟨g, off, none⟩ ∧ g < B ∧ w.cell? ⟨g, off + k, none⟩ = some (.int .i64 (xs.getD k 0)) := by
  obtain ⟨g, off, e, hg, ha⟩ := h (fun e => by subst e; simp at hk)
  exact ⟨g, off, e, hg, ha k hk⟩
theorem NdC.keep {b off : Nat} {g : Gd} (h : NdC w B b off g) (hb : b < B) (hc : ∀ p : Addr, p.block < B → w'.cell? p = w.cell? p) : NdC w' B b off g := by
  obtain ⟨A, c, h1, h2⟩ := h
  exact ⟨A, c, h1.keep hc, fun j v hv => (hc _ hb).trans (h2 j v hv)⟩
theorem Nds.keep (h : Nds w B A gs) (hc : ∀ p : Addr, p.block < B → w'.cell? p = w.cell? p) : Nds w' B A gs := fun hx => by
  obtain ⟨b, off, e, hb, ha⟩ := h hx
  exact ⟨b, off, e, hb, fun i hi => (ha i hi).keep hb hc⟩
theorem Nds.below (h : Nds w B A gs) (hb : Below B w w') : Nds w' B A gs := h.keep fun _ hp => hb.cell hp
theorem Nds.more (h : Nds w B A gs) (hB : B ≤ B') : Nds w B' A gs := fun hx => by
  obtain ⟨b, off, e, hb, ha⟩ := h hx
  exact ⟨b, off, e, by omega, fun i hi => by
    obtain ⟨A, c, h1, h2⟩ := ha i hi
    exact ⟨A, c, h1.more hB, h2⟩⟩
theorem Nds.at_ (h : Nds w B A gs) {k : Nat} (hk : k < gs.length) : ∃ b off, A = some ⟨b, off, none⟩ ∧ b < B ∧ NdC w B b (off + k * 9) (gs.getD k gd0) := by
  obtain ⟨b, off, e, hb, ha⟩ := h (fun e => by subst e; simp at hk)
  exact ⟨b, off, e, hb, ha k hk⟩
end

/-- Two nodes are one to whoever reads them. -/
structure GEq (g g' : Gd) : Prop where
  op : g.op = g'.op
  s : ∀ b, b < 256 → g.s b = g'.s b
  l : g.l = g'.l
  lo : g.lo = g'.lo
  hi : g.hi = g'.hi
  nm : g.nm = g'.nm
def LEq (gs gs' : List Gd) : Prop := gs.length = gs'.length ∧ ∀ i, i < gs.length → GEq (gs.getD i gd0) (gs'.getD i gd0)

/-- The cells of a node in a block of its own. -/
theorem node_cells {w : World} {b : Nat} {g : Gd} {A : Option Addr} {c : Nat} (r : RowA w b 30 (gdL g A c).toArray) :
    w.cell? ⟨b, 0, none⟩ = some (.int .u8 g.op) ∧ w.cell? ⟨b, 1, none⟩ = some (.int .u64 (W g.s 0)) ∧ w.cell? ⟨b, 2, none⟩ = some (.int .u64 (W g.s 1)) ∧ w.cell? ⟨b, 3, none⟩ = some (.int .u64 (W g.s 2)) ∧ w.cell? ⟨b, 4, none⟩ = some (.int .u64 (W g.s 3)) ∧
    w.cell? ⟨b, 5, none⟩ = some (.slice A g.l.length c) ∧ w.cell? ⟨b, 6, none⟩ = some (.int .i64 g.lo) ∧ w.cell? ⟨b, 7, none⟩ = some (.int .i64 g.hi) ∧ w.cell? ⟨b, 8, none⟩ = some (.string g.nm) :=
  ⟨r.at_ rfl, r.at_ rfl, r.at_ rfl, r.at_ rfl, r.at_ rfl, r.at_ rfl, r.at_ rfl, r.at_ rfl, r.at_ rfl⟩
abbrev zeroC : Array Value := #[.int .u8 0, .int .u64 0, .int .u64 0, .int .u64 0, .int .u64 0, .slice none 0 0, .int .i64 0, .int .i64 0, .string { data := #[] }]

set_option maxRecDepth 100000 in
set_option maxHeartbeats 2000000 in
theorem same_core (A A2 : Option Addr) (n c c2 : Nat) (gs gs' : List Gd) (w : World) (hx : Nds w w.heap.size A gs) (hy : Nds w w.heap.size A2 gs') (he : ∀ i, i < gs.length → GEq (gs.getD i gd0) (gs'.getD i gd0)) (hn1 : Hid (gs.length = n)) (hn2 : Hid (gs'.length = n)) (lx : n ≤ 1000000) (hl : ∀ g ∈ gs, g.l.length ≤ 1000000) :
    Calls Tryd.prog 9 #[.slice A n c, .slice A2 n c2] w fun e w' => e = .returned (.bool true) ∧ Below w.heap.size w w' := by
  go_enter Tryd.func9, Tryd.ntmps9
  go_wp2
  go_loopw [5] (fun i wr => ∃ k : Nat, k ≤ n ∧ i = .int .i64 k ∧ Below w.heap.size w wr) (fun i _ => n - (intOf i).toNat)
  case atStart => exact ⟨0, Nat.zero_le _, rfl, Below.refl _ _⟩
  case round =>
    obtain ⟨k, hk0, rfl, D⟩ := hrel
    by_cases hlt : k < n
    · obtain ⟨b1, o1, rfl, hb1, A3, c3, i1, r1⟩ := (hx.below D).at_ (k := k) (by rw [hn1.out]; exact hlt)
      obtain ⟨b2, o2, rfl, hb2, A4, c4, i2, r2⟩ := (hy.below D).at_ (k := k) (by rw [hn2.out]; exact hlt)
      have hlt1 : k < gs.length := by rw [hn1.out]; exact hlt
      have hE := he k hlt1
      have hll := hl (gs.getD k gd0) (by rw [List.getD_eq_getElem?_getD, List.getElem?_eq_getElem hlt1]; exact List.getElem_mem hlt1)
      clear hlt1 he hl
      generalize gs.getD k gd0 = g at *
      generalize gs'.getD k gd0 = g' at *
      have hki : (k : Int) < (n : Int) := by omega
      have hbs := D.size
      have Z1 := RowA.new wr 30 zeroC
      have hW1 : Below wr.heap.size wr ((wr.alloc (.cells zeroC 30)).setRow wr.heap.size (gdL g A3 c3).toArray) := bel_setRow ((Below.refl _ _).alloc (Nat.le_refl _) _) _ _ (Nat.le_refl _)
      have R1 := Z1.row (gdL g A3 c3).toArray
      go_upto_region 7 with (first
        | refine wpList_load_mid rfl 30 (.tmp 22) rfl b1 (o1 + k * 9) rfl (gdL g A3 c3) _ r1 Tryd.underlying30 rfl (gdL_info g A3 c3) ?_
        | refine wpList_store_row rfl 30 (.tmp 6) (.tmp 23) rfl wr.heap.size (gdL g A3 c3).toArray rfl rfl 30 zeroC Z1 (gdL_infoA g A3 c3) rfl (gdL_one g A3 c3) ?_)
      have D1 := D.trans (hW1.mono D.size)
      have r2' : ((wr.alloc (.cells zeroC 30)).setRow wr.heap.size (gdL g A3 c3).toArray).rangeAt b2 (o2 + k * 9) (gdL g' A4 c4) := fun j v hv => (hW1.cell (by show b2 < _; omega)).trans (r2 j v hv)
      have j1 : Its _ w.heap.size A3 g.l := i1.keep (fun p hp => hW1.cell (p := p) (by omega))
      have j2 : Its _ w.heap.size A4 g'.l := i2.keep (fun p hp => hW1.cell (p := p) (by omega))
      change RowA _ _ _ _ at R1
      generalize hw1 : (wr.alloc (.cells zeroC 30)).setRow wr.heap.size (gdL g A3 c3).toArray = w1 at *
      clear hw1 Z1 hW1 r1 r2 i1 i2
      have Z2 := RowA.new w1 30 zeroC
      have hW2 : Below w1.heap.size w1 ((w1.alloc (.cells zeroC 30)).setRow w1.heap.size (gdL g' A4 c4).toArray) := bel_setRow ((Below.refl _ _).alloc (Nat.le_refl _) _) _ _ (Nat.le_refl _)
      have R2 := Z2.row (gdL g' A4 c4).toArray
      go_upto_region 8 with (first
        | refine wpList_load_mid rfl 30 (.tmp 26) rfl b2 (o2 + k * 9) rfl (gdL g' A4 c4) _ r2' Tryd.underlying30 rfl (gdL_info g' A4 c4) ?_
        | refine wpList_store_row rfl 30 (.tmp 7) (.tmp 27) rfl w1.heap.size (gdL g' A4 c4).toArray rfl rfl 30 zeroC Z2 (gdL_infoA g' A4 c4) rfl (gdL_one g' A4 c4) ?_)
      have S1 := R1.below hW2 R1.lt
      have D2 := D1.trans (hW2.mono D1.size)
      have hs1 := D1.size
      have k1 : Its _ w.heap.size A3 g.l := j1.keep (fun p hp => hW2.cell (p := p) (by omega))
      have k2 : Its _ w.heap.size A4 g'.l := j2.keep (fun p hp => hW2.cell (p := p) (by omega))
      generalize (w1.alloc (.cells zeroC 30)).setRow w1.heap.size (gdL g' A4 c4).toArray = w2 at *
      clear Z2 hW2 R1 r2' j1 j2 D1
      obtain ⟨a0, a1, a2, a3, a4, a5, a6, a7, a8⟩ := node_cells S1
      obtain ⟨d0, d1, d2, d3, d4, d5, d6, d7, d8⟩ := node_cells R2
      generalize wr.heap.size = q1 at *
      generalize w1.heap.size = q2 at *
      have hsn : ∀ v, (binOp .neq 28 (.agg #[.int .u64 (W (g.s) 0), .int .u64 (W (g.s) 1), .int .u64 (W (g.s) 2), .int .u64 (W (g.s) 3)]) (.agg #[.int .u64 (W (g'.s) 0), .int .u64 (W (g'.s) 1), .int .u64 (W (g'.s) 2), .int .u64 (W (g'.s) 3)])).run Tryd.prog v = .ok (.bool false) v := fun v => by rw [set_neq, eqB_true hE.s]; rfl
      rw [← hE.op] at d0
      rw [← hE.lo] at d6
      rw [← hE.hi] at d7
      rw [← hE.nm] at d8
      rw [← hE.l] at d5 k2
      clear hE S1 R2
      go_wp2
      generalize g.l = xs at *
      go_loopw [8] (fun i wi => (∃ mm, wi = w2.drewN mm) ∧ ∃ j : Nat, j ≤ xs.length ∧ i = .int .i64 j) (fun i _ => xs.length - (intOf i).toNat)
      case atStart => exact ⟨⟨0, rfl⟩, 0, Nat.zero_le _, rfl⟩
      case round =>
        obtain ⟨⟨mm, rfl⟩, j, hj0, rfl⟩ := hrel
        by_cases hj : j < xs.length
        · obtain ⟨g5, o5, rfl, -, e5⟩ := k1.at_ hj
          obtain ⟨g6, o6, rfl, -, e6⟩ := k2.at_ hj
          have hji : (j : Int) < (xs.length : Int) := by omega
          generalize xs.getD j 0 = y at *
          clear k1 k2
          go_wp2
          go_quiet (fail)
          go_wp2
          exact ⟨⟨⟨_, rfl⟩, j + 1, by omega, rfl⟩, by simp [intOf]; omega⟩
        · go_wp2
          exact ⟨⟨k + 1, by omega, rfl, bel_drewN D2 mm⟩, by simp [intOf]; omega⟩
    · go_wp2
      go_ret
      exact ⟨rfl, D⟩

theorem same_any (A A2 : Option Addr) (c c2 : Nat) (gs gs' : List Gd) (w : World) (hx : Nds w w.heap.size A gs) (hy : Nds w w.heap.size A2 gs') (he : LEq gs gs') (lx : gs.length ≤ 1000000) (hl : ∀ g ∈ gs, g.l.length ≤ 1000000) :
    Calls Tryd.prog 9 #[.slice A gs.length c, .slice A2 gs'.length c2] w fun e w' => e = .returned (.bool true) ∧ Below w.heap.size w w' := by
  rw [← he.1]
  exact same_core A A2 gs.length c c2 gs gs' w hx hy he.2 rfl he.1.symm lx hl

end Go.Proofs.YtghjkbjpdjlddaaDoor.Sy
