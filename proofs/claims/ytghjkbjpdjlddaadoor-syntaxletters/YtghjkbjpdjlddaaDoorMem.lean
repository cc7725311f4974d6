/- Words for memory: a block that holds one set; slices that read as bytes, and as sets. Nothing of the program but the number of the type Set. -/
import Derived.Test.YtghjkbjpdjlddaaDoorMath
import Derived.Test.YtghjkbjpdjlddaaDoorGn
import Derived.WalkKit
import Derived.Deep.Draws
namespace Go.Proofs.YtghjkbjpdjlddaaDoor
open Go.RowKit

/-- Block g holds just the set p. -/
def Row4 (w : World) (g : Nat) (p : Nat → Bool) : Prop := w.heap[g]? = some (.cells (#[.int .u64 (W (p) 0), .int .u64 (W (p) 1), .int .u64 (W (p) 2), .int .u64 (W (p) 3)]) 28 (0, 0))

section
variable {w w' : World} {g : Nat} {p q : Nat → Bool}
theorem Row4.lt (h : Row4 w g p) : g < w.heap.size := by
  unfold Row4 at h
  rcases Nat.lt_or_ge g w.heap.size with hl | hg
  · exact hl
  · rw [Array.getElem?_eq_none hg] at h; cases h
theorem Row4.cells (h : Row4 w g p) : w.cell? ⟨g, 0, none⟩ = some (.int .u64 (W p 0)) ∧ w.cell? ⟨g, 1, none⟩ = some (.int .u64 (W p 1)) ∧ w.cell? ⟨g, 2, none⟩ = some (.int .u64 (W p 2)) ∧ w.cell? ⟨g, 3, none⟩ = some (.int .u64 (W p 3)) := by
  unfold Row4 at h
  simp [World.cell?, h]
theorem Row4.at_ (h : Row4 w g p) {k : Nat} (hk : k < 4) : w.cell? ⟨g, k, none⟩ = some (.int .u64 (W p k)) := by
  obtain ⟨h0, h1, h2, h3⟩ := h.cells
  have : k = 0 ∨ k = 1 ∨ k = 2 ∨ k = 3 := by omega
  rcases this with rfl | rfl | rfl | rfl <;> assumption
theorem Row4.thawed (h : Row4 w g p) (o : Nat) : w.frozen? ⟨g, o, none⟩ = false := by
  unfold Row4 at h
  simp [World.frozen?, h]
theorem Row4.drew (h : Row4 w g p) : Row4 w.drew g p := h
theorem Row4.drewN (h : Row4 w g p) (n : Nat) : Row4 (w.drewN n) g p := h
theorem Row4.alloc (h : Row4 w g p) (o : Obj) : Row4 (w.alloc o) g p := (Below.heap_alloc w o g h.lt).trans h
theorem Row4.far (h : Row4 w g p) {a : Addr} (ha : g ≠ a.block) (u : Value) : Row4 (w.setCell a u) g p := (Below.heap_setCell w a u g ha).trans h
theorem Row4.below {B : Nat} (h : Row4 w g p) (hb : Below B w w') (hg : g < B) : Row4 w' g p := (hb.block g hg).trans h
theorem Row4.new (w : World) (p : Nat → Bool) : Row4 (w.alloc (.cells (#[.int .u64 (W (p) 0), .int .u64 (W (p) 1), .int .u64 (W (p) 2), .int .u64 (W (p) 3)]) 28)) w.heap.size p := by
  exact heap_new w _
theorem Row4.zero (w : World) : Row4 (w.alloc (.cells #[.int .u64 0, .int .u64 0, .int .u64 0, .int .u64 0] 28)) w.heap.size noB := by
  unfold Row4; rw [W_zero, W_zero, W_zero, W_zero]; exact heap_new w _
theorem Row4.congr (h : Row4 w g p) (e : p = q) : Row4 w g q := e ▸ h

/-- A store of the whole set, cell by cell. -/
theorem Row4.fill (h : Row4 w g p) (q : Nat → Bool) : Row4 ((((w.setCell ⟨g, 0, none⟩ (.int .u64 (W q 0))).setCell ⟨g, 1, none⟩ (.int .u64 (W q 1))).setCell ⟨g, 2, none⟩ (.int .u64 (W q 2))).setCell ⟨g, 3, none⟩ (.int .u64 (W q 3))) g q := by
  unfold Row4 at h ⊢
  simp [World.setCell, Array.getElem?_modify, h]

/-- A store into one word. -/
theorem Row4.put (h : Row4 w g p) {k : Nat} (hk : k < 4) (hq : ∀ i, i < 4 → i ≠ k → W q i = W p i) : Row4 (w.setCell ⟨g, k, none⟩ (.int .u64 (W q k))) g q := by
  have q0 := hq 0 (by omega)
  have q1 := hq 1 (by omega)
  have q2 := hq 2 (by omega)
  have q3 := hq 3 (by omega)
  unfold Row4 at h ⊢
  have : k = 0 ∨ k = 1 ∨ k = 2 ∨ k = 3 := by omega
  rcases this with rfl | rfl | rfl | rfl
  · rw [q1 (by omega), q2 (by omega), q3 (by omega)]; simp [World.setCell, Array.getElem?_modify, h]
  · rw [q0 (by omega), q2 (by omega), q3 (by omega)]; simp [World.setCell, Array.getElem?_modify, h]
  · rw [q0 (by omega), q1 (by omega), q3 (by omega)]; simp [World.setCell, Array.getElem?_modify, h]
  · rw [q0 (by omega), q1 (by omega), q2 (by omega)]; simp [World.setCell, Array.getElem?_modify, h]

/-- One byte put into a set. -/
theorem Row4.add (h : Row4 w g p) (b : Nat) (hb : b < 256) : Row4 (w.setCell ⟨g, b / 64, none⟩ (.int .u64 (W (addB p b) (b / 64)))) g (addB p b) :=
  h.put (by omega) fun i _ hi => oth_W p b i hi
end

/-- The slice at A reads as the sets ps, and lies in blocks below B. -/
def Sts (w : World) (B : Nat) (A : Option Addr) (ps : List (Nat → Bool)) : Prop :=
  ps ≠ [] → ∃ g off, A = some ⟨g, off, none⟩ ∧ g < B ∧ ∀ i, i < ps.length → ∀ k, k < 4 → w.cell? ⟨g, off + i * 4 + k, none⟩ = some (.int .u64 (W (ps.getD i noB) k))

theorem Sts.keep {w w' : World} {B : Nat} {A : Option Addr} {ps : List (Nat → Bool)} (h : Sts w B A ps) (hc : ∀ p : Addr, p.block < B → w'.cell? p = w.cell? p) : Sts w' B A ps :=
  fun hx => by
    obtain ⟨g, off, e, hg, ha⟩ := h hx
    exact ⟨g, off, e, hg, fun i hi k hk => (hc _ hg).trans (ha i hi k hk)⟩
theorem Sts.below {w w' : World} {B : Nat} {A : Option Addr} {ps : List (Nat → Bool)} (h : Sts w B A ps) (hb : Below B w w') : Sts w' B A ps := h.keep fun _ hp => hb.cell hp
theorem Sts.more {w : World} {B B' : Nat} {A : Option Addr} {ps : List (Nat → Bool)} (h : Sts w B A ps) (hB : B ≤ B') : Sts w B' A ps :=
  fun hx => by
    obtain ⟨g, off, e, hg, ha⟩ := h hx
    exact ⟨g, off, e, by omega, ha⟩
theorem Sts.at_ {w : World} {B : Nat} {A : Option Addr} {ps : List (Nat → Bool)} (h : Sts w B A ps) {k : Nat} (hk : k < ps.length) :
    ∃ g off, A = some ⟨g, off, none⟩ ∧ g < B ∧ w.cell? ⟨g, off + k * 4, none⟩ = some (.int .u64 (W (ps.getD k noB) 0)) ∧ w.cell? ⟨g, off + k * 4 + 1, none⟩ = some (.int .u64 (W (ps.getD k noB) 1)) ∧
      w.cell? ⟨g, off + k * 4 + 2, none⟩ = some (.int .u64 (W (ps.getD k noB) 2)) ∧ w.cell? ⟨g, off + k * 4 + 3, none⟩ = some (.int .u64 (W (ps.getD k noB) 3)) := by
  obtain ⟨g, off, e, hg, ha⟩ := h (fun e => by subst e; simp at hk)
  exact ⟨g, off, e, hg, ha k hk 0 (by omega), ha k hk 1 (by omega), ha k hk 2 (by omega), ha k hk 3 (by omega)⟩

end Go.Proofs.YtghjkbjpdjlddaaDoor
