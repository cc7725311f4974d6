/- Maps keyed by strings, told by a function; Defs in memory; what names stand for (the landed meanings, Right). -/
import Derived.Test.YtcgondjekpcpgaaDoorPAb
import Derived.Test.YtcgondjekpcpgaaDoorPM4
import Derived.Test.YtcgondjekpcpgaaDoorPSc
import Derived.Maps.OwnSet
import Derived.Test.YtcgondjekpcpgaaDoorPM1
import Derived.ProofKit
import Derived.OpenShut
import Derived.ChangeOld
import Derived.Below
import Derived.Deep.Slices
namespace Go.Proofs.YtcgondjekpcpgaaDoor.Sy
open Go.RowKit
set_option maxRecDepth 100000
set_option linter.unusedVariables false

/-! ### Maps -/
def heldE (v : Value) : Option (DataW Value × List MemPlace) := some (.held v, [])
def keyS (s : ByteArray) : Lit := .string s.data.toList
/-- Block b is a map that has these values at these keys, and no others. -/
def MapV (w : World) (b n : Nat) (f : ByteArray → Option Value) : Prop :=
  ∃ D : DataW Value, w.ownsMap Tryd.prog 9 heldE b n D ∧ ∀ s : ByteArray, Maps.has D (keyS s) = (f s).isSome ∧ ∀ v z, f s = some v → D.atKey (keyS s) z = .held v
section
variable {w w' : World} {b n : Nat} {f : ByteArray → Option Value}
theorem MapV.lt (h : MapV w b n f) : b < w.heap.size := by
  obtain ⟨D, h, _⟩ := h
  exact h.lt
theorem MapV.blk (h : MapV w b n f) : ∃ es clock, w.heap[b]? = some (.map es clock) := by
  obtain ⟨D, ⟨es, clock, h, _⟩, _⟩ := h
  exact ⟨es, clock, h⟩
theorem MapV.keep (h : MapV w b n f) (hb : w'.heap[b]? = w.heap[b]?) : MapV w' b n f := by
  obtain ⟨D, ⟨es, clock, h1, h2⟩, h3⟩ := h
  exact ⟨D, ⟨es, clock, hb.trans h1, h2⟩, h3⟩
theorem MapV.below {B : Nat} (h : MapV w b n f) (hb : Below B w w') (hB : b < B) : MapV w' b n f := h.keep (hb.block b hB)
theorem MapV.alloc (h : MapV w b n f) (o : Obj) : MapV (w.alloc o) b n f := h.keep (Below.heap_alloc w o b h.lt)
theorem MapV.congr {g : ByteArray → Option Value} (h : MapV w b n f) (e : ∀ s, f s = g s) : MapV w b n g := by
  have : f = g := funext e
  exact this ▸ h
end
section
variable {w : World} {ops : Array Oper} {rest : List Oper} {o : Oper} {a : Act} {Q : Exit → Act → World → Prop}
end

/-! ### Defs in memory -/
abbrev DG := ByteArray × List Gd
def dg0 : DG := (ByteArray.empty, [])
def dfL (d : DG) (A : Option Addr) (c : Nat) : List Value := [.string d.1, .slice A d.2.length c]
/-- A Def lies in block b from off on. -/
def DfC (w : World) (B b off : Nat) (d : DG) : Prop := ∃ A c, Nds w B A d.2 ∧ w.rangeAt b off (dfL d A c) ∧ d.2.length ≤ c
/-- The slice at A reads as the Defs ds. -/
def Dfs (w : World) (B : Nat) (A : Option Addr) (ds : List DG) : Prop :=
  ds ≠ [] → ∃ b off, A = some ⟨b, off, none⟩ ∧ b < B ∧ ∀ i, i < ds.length → DfC w B b (off + i * 2) (ds.getD i dg0)
section
variable {w w' : World} {B B' : Nat} {A : Option Addr} {ds : List DG}
theorem Dfs.keep (h : Dfs w B A ds) (hc : ∀ p : Addr, p.block < B → w'.cell? p = w.cell? p) : Dfs w' B A ds := fun hx => by
  obtain ⟨b, off, e, hb, ha⟩ := h hx
  refine ⟨b, off, e, hb, fun i hi => ?_⟩
  obtain ⟨A1, c1, h1, h2, h3⟩ := ha i hi
  exact ⟨A1, c1, h1.keep hc, fun j v hv => (hc _ hb).trans (h2 j v hv), h3⟩
theorem Dfs.below (h : Dfs w B A ds) (hb : Below B w w') : Dfs w' B A ds := h.keep fun _ hp => hb.cell hp
theorem Dfs.more (h : Dfs w B A ds) (hB : B ≤ B') : Dfs w B' A ds := fun hx => by
  obtain ⟨b, off, e, hb, ha⟩ := h hx
  exact ⟨b, off, e, by omega, fun i hi => by
    obtain ⟨A1, c1, h1, h2, h3⟩ := ha i hi
    exact ⟨A1, c1, h1.more hB, h2, h3⟩⟩
theorem Dfs.at_ (h : Dfs w B A ds) {k : Nat} (hk : k < ds.length) : ∃ b off, A = some ⟨b, off, none⟩ ∧ b < B ∧ DfC w B b (off + k * 2) (ds.getD k dg0) := by
  obtain ⟨b, off, e, hb, ha⟩ := h (fun e => by subst e; simp at hk)
  exact ⟨b, off, e, hb, ha k hk⟩
end
/-- P6.1's Right. -/
def RightDs (ds : List DG) : Prop := (∀ d ∈ ds, nameB (bs d.1) = true ∧ RightG d.2) ∧ ds.Pairwise fun a b => a.1 ≠ b.1
theorem RightDs.take {ds : List DG} (h : RightDs ds) (k : Nat) : RightDs (ds.take k) :=
  ⟨fun d hd => h.1 d (List.mem_of_mem_take hd), h.2.sublist (List.take_sublist _ _)⟩
theorem RightDs.snoc {ds : List DG} {d : DG} (h : RightDs ds) (h1 : nameB (bs d.1) = true) (h2 : RightG d.2) (h3 : ∀ x ∈ ds, x.1 ≠ d.1) : RightDs (ds ++ [d]) := by
  refine ⟨fun x hx => ?_, List.pairwise_append.2 ⟨h.2, List.pairwise_singleton _ _, fun a ha b hb => ?_⟩⟩
  · rcases List.mem_append.1 hx with q | q
    · exact h.1 x q
    · obtain rfl := List.mem_singleton.1 q
      exact ⟨h1, h2⟩
  · obtain rfl := List.mem_singleton.1 hb
    exact h3 a ha
/-- A map of what these names stand for. -/
structure MapT (w : World) (b n B : Nat) (ds : List DG) (f : ByteArray → Option Value) : Prop where
  map : MapV w b n f
  none : ∀ s, f s = none ↔ ∀ d ∈ ds, d.1 ≠ s
  some : ∀ s v, f s = some v → ∃ d ∈ ds, d.1 = s ∧ ∃ A c, v = .slice A d.2.length c ∧ Nds w B A d.2 ∧ d.2.length ≤ c
theorem MapT.keep {w w' : World} {b n B : Nat} {ds : List DG} {f : ByteArray → Option Value} (h : MapT w b n B ds f) (hb : w'.heap[b]? = w.heap[b]?) (hc : ∀ p : Addr, p.block < B → w'.cell? p = w.cell? p) : MapT w' b n B ds f :=
  ⟨h.map.keep hb, h.none, fun s v hv => by
    obtain ⟨d, h1, h2, A, c, h3, h4, h5⟩ := h.some s v hv
    exact ⟨d, h1, h2, A, c, h3, h4.keep hc, h5⟩⟩
theorem MapT.put {w w' : World} {b n B : Nat} {ds : List DG} {f : ByteArray → Option Value} {d : DG} {A : Option Addr} {c : Nat} (h : MapT w b n B ds f) (hm : MapV w' b (n + 1) (fun k => if k = d.1 then Option.some (.slice A d.2.length c) else f k)) (hc : ∀ p : Addr, p.block < B → w'.cell? p = w.cell? p) (hN : Nds w B A d.2) (hca : d.2.length ≤ c) : MapT w' b (n + 1) B (ds ++ [d]) (fun k => if k = d.1 then Option.some (.slice A d.2.length c) else f k) := by
  refine ⟨hm, fun s => ?_, fun s v hv => ?_⟩
  · by_cases hs : s = d.1
    · subst hs
      simp only [if_true]
      exact ⟨fun q => (by cases q), fun q => absurd rfl (q d (by simp))⟩
    · simp only [if_neg hs]
      rw [h.none]
      constructor
      · intro q x hx
        rcases List.mem_append.1 hx with r | r
        · exact q x r
        · obtain rfl := List.mem_singleton.1 r
          exact fun e => hs e.symm
      · exact fun q x hx => q x (List.mem_append_left _ hx)
  · by_cases hs : s = d.1
    · subst hs
      simp at hv
      exact ⟨d, by simp, rfl, A, c, hv.symm, hN.keep hc, hca⟩
    · simp only [if_neg hs] at hv
      obtain ⟨x, h1, h2, A1, c1, h3, h4, h5⟩ := h.some s v hv
      exact ⟨x, List.mem_append_left _ h1, h2, A1, c1, h3, h4.keep hc, h5⟩
end Go.Proofs.YtcgondjekpcpgaaDoor.Sy

namespace Go.Proofs.YtcgondjekpcpgaaDoor.Sy
open Go.RowKit
set_option maxRecDepth 100000
set_option linter.unusedVariables false

theorem name_short {n : Nd} (h : shapeB n = true) : n.name.length ≤ 32 := by
  unfold shapeB nameB at h
  repeat' split at h
  all_goals first
    | (simp only [Bool.and_eq_true, beq_iff_eq, decide_eq_true_eq] at h; first | omega | (simp only [h]; decide))
    | cases h
theorem gn_small {gs : List Gd} {ns : List Nd} (hg : GN gs ns) (hs : Shp ns) (hf : ∀ g ∈ gs, g.l.length ≤ 1000000) : ∀ g ∈ gs, g.nm.size ≤ maxLen ∧ g.l.length ≤ maxLen := by
  intro g hgm
  have h2 := hf g hgm
  obtain ⟨i, hi, rfl⟩ := List.getElem_of_mem hgm
  have h1 := (hg.2 i hi).nm
  have hi2 : i < ns.length := by rw [← hg.1]; exact hi
  rw [List.getD_eq_getElem?_getD, List.getElem?_eq_getElem hi, List.getD_eq_getElem?_getD, List.getElem?_eq_getElem hi2] at h1
  simp only [Option.getD_some] at h1
  have h3 := name_short (hs _ (List.getElem_mem hi2))
  rw [← h1, bs_len] at h3
  unfold maxLen
  omega

end Go.Proofs.YtcgondjekpcpgaaDoor.Sy

namespace Go.Proofs.YtcgondjekpcpgaaDoor.Sy
open Go.RowKit
set_option maxRecDepth 100000
set_option linter.unusedVariables false

theorem toList_inj' {a b : ByteArray} (h : a.toList = b.toList) : a = b := by
  rw [ByteArray.toList_eq, ByteArray.toList_eq] at h
  cases a; cases b
  congr
  exact Array.toList_inj.1 h
end Go.Proofs.YtcgondjekpcpgaaDoor.Sy

namespace Go.Proofs.YtcgondjekpcpgaaDoor
open Go.ChangeShapes Go.WideShapes Go.ChangeAt Go.RowKit
set_option maxRecDepth 100000

theorem own : ownKnob Tryd.prog.godebug = none := by kernel_rfl
theorem laidOut : laidOutB Tryd.prog = true := by kernel_rfl

section
variable {H : Type} {enc : TypeId × Value → H} {W0 : World} {base : Nat} {spare : Nat → Bool} {held : Bool}

theorem plain_add (g off : Nat) (j : Nat) : (⟨g, off, none⟩ : Addr).add j = ⟨g, off + j, none⟩ := by
  unfold Addr.add
  split
  · subst_vars; rfl
  · rfl

/-- A slice of bytes that came in. -/
theorem open_bytes {r : Reach} {b0 : Nat} {v : Value} {d : DataW H} {p : List MemPlace} (hv : Value.okWide Tryd.prog W0 r b0 46 v) (h : DataW.Trod enc Tryd.prog W0 base spare held 46 v d p) :
    ∃ (A : Option Addr) (c : Nat) (xs : List Int), v = .slice A xs.length c ∧ Bts W0 W0.heap.size A xs ∧ xs.length ≤ c ∧ c ≤ maxLen := by
  obtain ⟨A, len, cap, rfl⟩ := okWide_slice Tryd.underlying46 hv
  obtain ⟨fuel, hf⟩ := h
  rcases open_ints Tryd.underlying46 Tryd.underlying5 (by kernel_rfl) hf with ⟨hcs, _⟩ | ⟨x, l, c, zs, hcs, _, hl, hm, hz, _, hcell, hwz⟩
  · simp [Value.cells] at hcs
    obtain ⟨rfl, rfl, rfl⟩ := hcs
    exact ⟨none, 0, [], rfl, ⟨by simp, fun h => absurd rfl h⟩, Nat.le_refl _, Nat.zero_le _⟩
  · simp [Value.cells] at hcs
    obtain ⟨rfl, rfl, rfl⟩ := hcs
    have hlz : len ≤ zs.length := by rw [hz]; split <;> omega
    have hxl : (zs.take len).length = len := by rw [List.length_take]; omega
    refine ⟨some x, cap, zs.take len, by rw [hxl], ⟨fun n hn => ?_, fun hne => ?_⟩, by rw [hxl]; exact hl, hm⟩
    · exact bounds_u8 (hwz n (List.mem_of_mem_take hn))
    · have hpos : 0 < len := by
        rcases Nat.eq_zero_or_pos len with e | e
        · subst e; exact absurd (by simp) hne
        · exact e
      have h0 := hcell 0 (by omega)
      obtain ⟨g, off, spot⟩ := x
      have hs : spot = none := by simpa [Addr.add] using World.cell?_spot h0
      subst hs
      refine ⟨g, off, rfl, World.block_lt_of_cell? W0 _ (by rw [plain_add] at h0; exact h0), fun i hi => ?_⟩
      rw [hxl] at hi
      have := hcell i (by omega)
      rw [plain_add] at this
      rw [this, List.getD_eq_getElem?_getD, List.getD_eq_getElem?_getD, List.getElem?_take, if_pos hi]

end

end Go.Proofs.YtcgondjekpcpgaaDoor

namespace Go.Proofs.YtcgondjekpcpgaaDoor.Sy
open Go.RowKit
set_option maxRecDepth 100000
set_option linter.unusedVariables false

def ints (l : List Int) : List Value := l.map (Value.int .i64)
section
variable {w w' : World} {base : Nat} {e : TypeId} {sz n : Nat} {v : Value} {xs : List Value}
theorem own_blk (h : w.ownsRow base e sz v n xs) {k : Nat} (hk : v.ownBlock = some k) : ∃ cur, w.heap[k]? = some (.cells cur e (0, 0)) := by
  rcases h.2 with ⟨hv, _⟩ | ⟨g, cap, cur, hv, hg, hh, _⟩
  · rw [hv] at hk; cases hk
  · rw [hv] at hk
    have : g = k := Option.some.inj hk
    subst this
    exact ⟨cur, hh⟩
/-- A block of another type is another block. -/
theorem own_ne {e' : TypeId} {cs : Array Value} {b : Nat} {p : Nat × Nat} (h : w.ownsRow base e sz v n xs) (hb : w.heap[b]? = some (.cells cs e' p)) (hne : e ≠ e') : v.ownBlock ≠ some b := fun q => by
  obtain ⟨cur, hc⟩ := own_blk h q
  rw [hb] at hc
  cases hc
  exact hne rfl
theorem own_nem {es : Array MapEntry} {cl b : Nat} (h : w.ownsRow base e sz v n xs) (hb : w.heap[b]? = some (.map es cl)) : v.ownBlock ≠ some b := fun q => by
  obtain ⟨cur, hc⟩ := own_blk h q
  rw [hb] at hc
  cases hc
theorem own_apart {base' sz' n' : Nat} {e' : TypeId} {v' : Value} {xs' : List Value} (h : w.ownsRow base e sz v n xs) (h' : w.ownsRow base' e' sz' v' n' xs') (hne : e ≠ e') : ∀ k, v.ownBlock = some k → v'.ownBlock ≠ some k := fun k hk q => by
  obtain ⟨cur, hc⟩ := own_blk h hk
  exact own_ne h' hc (fun q => hne q.symm) q
/-- Kept where another block is written. -/
theorem own_kept {row : Option Nat} (h : w.ownsRow base e sz v n xs) (g : w.grownBy w' row) (hr : ∀ k, row = some k → v.ownBlock ≠ some k) : w'.ownsRow base e sz v n xs := by
  refine h.kept g ?_
  cases hv : v.ownBlock with
  | none => exact .inl rfl
  | some k => exact .inr (fun q => hr k q.symm hv)
theorem own_cap {A : Option Addr} {c : Nat} (h : w.ownsRow base e sz (.slice A n c) n xs) : n ≤ c := by
  rcases h.2 with ⟨hv, hn⟩ | ⟨g, cap, cur, hv, hg, hh, h3, _⟩
  · omega
  · cases hv
    exact h3
end
/-! ### The expander -/
/-- What is yet to come of a walk. -/
structure WkE where
  nm : ByteArray
  A : Option Addr
  c : Nat
  rest : List Gd
section
variable {B : Nat} {w w' : World} {b bt bo nt no : Nat} {f g : ByteArray → Option Value} {wv nv rv : Value} {wl : List WkE} {l : List NR} {rt : List Nat}
end
theorem _root_.Go.Proofs.YtcgondjekpcpgaaDoor.RowA.set {w : World} {g : Nat} {t : TypeId} {cs : Array Value} (r : RowA w g t cs) (k : Nat) (v : Value) : RowA (w.setCell ⟨g, k, none⟩ v) g t (cs.setIfInBounds k v) := by
  unfold RowA at r ⊢
  simp [World.setCell, Array.getElem?_modify, r]
theorem _root_.Go.Proofs.YtcgondjekpcpgaaDoor.RowA.far {w : World} {g : Nat} {t : TypeId} {cs : Array Value} (r : RowA w g t cs) {a : Addr} (ha : g ≠ a.block) (v : Value) : RowA (w.setCell a v) g t cs := (Below.heap_setCell w a v g ha).trans r
theorem bel_set {B : Nat} {a w : World} (h : Below B a w) (p : Addr) (v : Value) (hp : B ≤ p.block) : Below B a (w.setCell p v) :=
  ⟨h.os, h.tape, h.output, by simpa [World.setCell] using h.size, fun k hk => (Below.heap_setCell w p v k (by omega)).trans (h.block k hk)⟩
theorem bel_row {B : Nat} {a w u : World} {row : Option Nat} (h : Below B a w) (hB : B ≤ w.heap.size) (hg : w.grownBy u row) (hr : ∀ k, row = some k → B ≤ k) : Below B a u :=
  ⟨hg.os.trans h.os, hg.tape.trans h.tape, hg.output.trans h.output, Nat.le_trans h.size hg.size, fun k hk => (hg.block k (by omega) (fun q => by have := hr k q.symm; omega)).trans (h.block k hk)⟩
theorem own_set {u : World} {base : Nat} {e : TypeId} {sz n : Nat} {z : Value} {xs : List Value} (h : u.ownsRow base e sz z n xs) {a : Addr} (hb : z.ownBlock ≠ some a.block) (y : Value) : (u.setCell a y).ownsRow base e sz z n xs := by
  obtain ⟨h1, h2⟩ := h
  refine ⟨h1, ?_⟩
  rcases h2 with h2 | ⟨g, cap, cur, hv, hg, hh, r⟩
  · exact .inl h2
  · exact .inr ⟨g, cap, cur, hv, hg, (Below.heap_setCell _ _ _ _ (fun q => hb (by rw [hv, ← q]; rfl))).trans hh, r⟩
theorem MapV.set {w : World} {b n : Nat} {f : ByteArray → Option Value} (h : MapV w b n f) {a : Addr} (hb : b ≠ a.block) (y : Value) : MapV (w.setCell a y) b n f := h.keep (Below.heap_setCell _ _ _ _ hb)
theorem MapV.far {w : World} {b n : Nat} {f : ByteArray → Option Value} (h : MapV w b n f) {base : Nat} {e : TypeId} {sz m : Nat} {z : Value} {xs : List Value} (ho : w.ownsRow base e sz z m xs) : z.ownBlock ≠ some b := by
  obtain ⟨es, cl, hb⟩ := h.blk
  exact own_nem ho hb
theorem MapV.ne {w : World} {b n g : Nat} {f : ByteArray → Option Value} {t : TypeId} {cs : Array Value} (h : MapV w b n f) (r : RowA w g t cs) : b ≠ g := fun q => by
  obtain ⟨es, cl, hb⟩ := h.blk
  unfold RowA at r
  rw [← q, hb] at r
  cases r
theorem own_neR {w : World} {base : Nat} {e e' : TypeId} {sz n b : Nat} {v : Value} {xs : List Value} {cs : Array Value} (h : w.ownsRow base e sz v n xs) (hb : RowA w b e' cs) (hne : e ≠ e') : v.ownBlock ≠ some b := own_ne h hb hne
theorem own_sb {u : World} {base : Nat} {e : TypeId} {sz n b k : Nat} {z : Value} {xs : List Value} (h : u.ownsRow base e sz z n xs) (hb : z.ownBlock ≠ some b) (y : Value) : (u.setCell ⟨b, k, none⟩ y).ownsRow base e sz z n xs := own_set h hb y
/-- Where a row may lie now. -/
def Lies (w : World) (v z : Value) : Prop := z.ownBlock = v.ownBlock ∨ ∃ k, z.ownBlock = some k ∧ w.heap.size ≤ k
theorem Lies.ne {w : World} {v z : Value} {base : Nat} {e : TypeId} {sz n : Nat} {y : Value} {xs : List Value} (h : Lies w v z) (ho : w.ownsRow base e sz y n xs) (hn : ∀ k, y.ownBlock = some k → v.ownBlock ≠ some k) : ∀ k, y.ownBlock = some k → z.ownBlock ≠ some k := fun k hk q => by
  rcases h with h | ⟨j, h1, h2⟩
  · exact hn k hk (h ▸ q)
  · rw [h1] at q
    cases q
    have := (ho.lt k hk).2
    omega
section
variable {B : Nat} {w u : World} {b bt bo nt no : Nat} {f g : ByteArray → Option Value} {wv nv rv z : Value} {wl wl' : List WkE} {l : List NR} {rt rt' : List Nat} {n : Nat}
end
end Go.Proofs.YtcgondjekpcpgaaDoor.Sy
