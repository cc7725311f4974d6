/- Words for memory that speak of no type of the program's own: blocks that a call made, rows told by a function of their place, slices that read as bytes. -/
import Derived.Test.YtghjkbjpdjlddaaDoorRows
import Derived.WalkKit
import Derived.WalkSpells
import Derived.WalkLawsBesides
import Derived.Deep.Draws
import Derived.OwnWalk
import Derived.Maps.AppendAt
import Derived.Laws.MakeOwn
namespace Go.Proofs.YtghjkbjpdjlddaaDoor
open Go.RowKit

theorem hidd {p : Prop} (h : p) : Hid p := h
theorem bel_drewN {B : Nat} {a w : World} (h : Below B a w) (n : Nat) : Below B a (w.drewN n) := ⟨h.os, h.tape, h.output, h.size, h.block⟩
theorem bel_drew {B : Nat} {a w : World} (h : Below B a w) : Below B a w.drew := ⟨h.os, h.tape, h.output, h.size, h.block⟩
theorem bel_of_drew {B : Nat} {a w : World} (h : Below B a.drew w) : Below B a w := ⟨h.os, h.tape, h.output, h.size, h.block⟩
theorem bel1 {w w1 : World} {o : Obj} (hb : Below (w.alloc o).heap.size (w.alloc o) w1) : Below w.heap.size w w1 := ((Below.refl _ _).alloc (Nat.le_refl _) o).trans (hb.mono (by simp))

theorem heap_new (w : World) (o : Obj) : (w.alloc o).heap[w.heap.size]? = some o := by
  show (w.heap.push o)[w.heap.size]? = _
  rw [Array.getElem?_push, if_pos rfl]

theorem ret_int {k : IntKind} {a b : Int} (h : a = b) : Ending.returned (.int k a) = .returned (.int k b) := by rw [h]
theorem ret_bool {a b : Bool} (h : a = b) : Ending.returned (.bool a) = .returned (.bool b) := by rw [h]


theorem own_base {w : World} {b b' : Nat} {e : TypeId} {size : Nat} {v : Value} {n : Nat} {xs : List Value} (h : w.ownsRow b e size v n xs) (hb : b' ≤ b) : w.ownsRow b' e size v n xs := by
  obtain ⟨h1, h2⟩ := h
  refine ⟨h1, ?_⟩
  rcases h2 with h2 | ⟨g, cap, cur, hv, hg, r⟩
  · exact .inl h2
  · exact .inr ⟨g, cap, cur, hv, Nat.le_trans hb hg, r⟩
theorem own_below {w w' : World} {b B : Nat} {e : TypeId} {size : Nat} {v : Value} {n : Nat} {xs : List Value} (h : w.ownsRow b e size v n xs) (hb : Below B w w') (hB : w.heap.size ≤ B) : w'.ownsRow b e size v n xs := by
  obtain ⟨h1, h2⟩ := h
  refine ⟨h1, ?_⟩
  rcases h2 with h2 | ⟨g, cap, cur, hv, hg, hh, r⟩
  · exact .inl h2
  · have hl : g < w.heap.size := by
      rcases Nat.lt_or_ge g w.heap.size with hl | hl
      · exact hl
      · rw [Array.getElem?_eq_none hl] at hh; cases hh
    exact .inr ⟨g, cap, cur, hv, hg, (hb.block g (by omega)).trans hh, r⟩

def u8s (l : List Int) : List Value := l.map (Value.int .u8)
theorem u8s_snoc (l : List Int) (x : Int) : u8s l ++ [.int .u8 x] = u8s (l ++ [x]) := by simp [u8s]

theorem byte_info : (Tryd.prog.info? 5).map (fun i => (i.zero, i.size, i.bytes)) = some (some (.int .u8 0), 1, 1) := by kernel_rfl

theorem own_form {w : World} {b : Nat} {e : TypeId} {size : Nat} {v : Value} {n : Nat} {xs : List Value} (h : w.ownsRow b e size v n xs) : ∃ A c, v = .slice A n c := by
  rcases h.2 with ⟨hv, hn⟩ | ⟨g, cap, cur, hv, _⟩
  · exact ⟨none, 0, by rw [hv, hn]⟩
  · exact ⟨_, _, hv⟩
theorem own_pos {w : World} {b : Nat} {e : TypeId} {size : Nat} {v : Value} {n : Nat} {xs : List Value} (h : w.ownsRow b e size v n xs) (hn : 0 < n) : ∃ g c, v = .slice (some ⟨g, 0, none⟩) n c ∧ b ≤ g ∧ g < w.heap.size := by
  rcases h.2 with ⟨hv, h0⟩ | ⟨g, cap, cur, hv, hg, hh, _⟩
  · omega
  · refine ⟨g, cap, hv, hg, ?_⟩
    rcases Nat.lt_or_ge g w.heap.size with hl | hl
    · exact hl
    · rw [Array.getElem?_eq_none hl] at hh; cases hh

theorem u8s_at (l : List Int) (i : Nat) (h : i < l.length) : (u8s l)[i]? = some (.int .u8 (l.getD i 0)) := by
  unfold u8s
  rw [List.getElem?_map, List.getElem?_eq_getElem h, List.getD_eq_getElem?_getD, List.getElem?_eq_getElem h]
  rfl
/-- The slice at A reads as the bytes xs, and lies in blocks below B. -/
def Bts (w : World) (B : Nat) (A : Option Addr) (xs : List Int) : Prop :=
  (∀ x ∈ xs, 0 ≤ x ∧ x ≤ 255) ∧ (xs ≠ [] → ∃ g off, A = some ⟨g, off, none⟩ ∧ g < B ∧ ∀ i, i < xs.length → w.cell? ⟨g, off + i, none⟩ = some (.int .u8 (xs.getD i 0)))

theorem Bts.keep {w w' : World} {B : Nat} {A : Option Addr} {xs : List Int} (h : Bts w B A xs) (hc : ∀ p : Addr, p.block < B → w'.cell? p = w.cell? p) : Bts w' B A xs :=
  ⟨h.1, fun hx => by
    obtain ⟨g, off, e, hg, ha⟩ := h.2 hx
    exact ⟨g, off, e, hg, fun i hi => (hc _ hg).trans (ha i hi)⟩⟩
theorem Bts.below {w w' : World} {B : Nat} {A : Option Addr} {xs : List Int} (h : Bts w B A xs) (hb : Below B w w') : Bts w' B A xs := h.keep fun _ hp => hb.cell hp
theorem Bts.more {w : World} {B B' : Nat} {A : Option Addr} {xs : List Int} (h : Bts w B A xs) (hB : B ≤ B') : Bts w B' A xs :=
  ⟨h.1, fun hx => by
    obtain ⟨g, off, e, hg, ha⟩ := h.2 hx
    exact ⟨g, off, e, by omega, ha⟩⟩
theorem Bts.at_ {w : World} {B : Nat} {A : Option Addr} {xs : List Int} (h : Bts w B A xs) {k : Nat} (hk : k < xs.length) :
    ∃ g off, A = some ⟨g, off, none⟩ ∧ g < B ∧ w.cell? ⟨g, off + k, none⟩ = some (.int .u8 (xs.getD k 0)) ∧ 0 ≤ xs.getD k 0 ∧ xs.getD k 0 ≤ 255 := by
  obtain ⟨g, off, e, hg, ha⟩ := h.2 (fun e => by subst e; simp at hk)
  have hm : xs.getD k 0 ∈ xs := by rw [List.getD_eq_getElem?_getD, List.getElem?_eq_getElem hk]; exact List.getElem_mem hk
  exact ⟨g, off, e, hg, ha k hk, (h.1 _ hm).1, (h.1 _ hm).2⟩
theorem Bts.cut {w : World} {B : Nat} {A : Option Addr} {xs : List Int} (h : Bts w B A xs) (n : Nat) : Bts w B A (xs.take n) := by
  refine ⟨fun x hx => h.1 x (List.mem_of_mem_take hx), fun hne => ?_⟩
  obtain ⟨g, off, e, hg, hc⟩ := h.2 (fun e => hne (by subst e; simp))
  refine ⟨g, off, e, hg, fun i hi => ?_⟩
  rw [List.length_take] at hi
  rw [hc i (by omega), List.getD_eq_getElem?_getD, List.getD_eq_getElem?_getD, List.getElem?_take, if_pos (by omega)]
theorem Bts.of_own {w : World} {b : Nat} {v : Value} {xs : List Int} (h : w.ownsRow b 5 1 v xs.length (u8s xs)) (hx : ∀ x ∈ xs, 0 ≤ x ∧ x ≤ 255) : ∃ A c, v = .slice A xs.length c ∧ Bts w w.heap.size A xs := by
  rcases Nat.eq_zero_or_pos xs.length with h0 | h0
  · obtain ⟨A, c, hv⟩ := own_form h
    exact ⟨A, c, hv, hx, fun hne => absurd (List.eq_nil_of_length_eq_zero h0) hne⟩
  · obtain ⟨g, c, rfl, _, hl⟩ := own_pos h h0
    refine ⟨_, c, rfl, hx, fun _ => ⟨g, 0, rfl, hl, fun i hi => ?_⟩⟩
    have := h.cellAt i (by omega)
    rw [u8s_at xs i hi] at this
    rw [Nat.zero_add]
    exact this

/-- n cells, told by a function of their place. -/
def fnC (n : Nat) (h : Nat → Value) : Array Value := ((List.range n).map h).toArray
theorem fnC_size (n : Nat) (h : Nat → Value) : (fnC n h).size = n := by simp [fnC]
theorem fnC_at (n : Nat) (h : Nat → Value) (k : Nat) (hk : k < n) : (fnC n h)[k]? = some (h k) := by
  unfold fnC
  rw [List.getElem?_toArray]
  simp [hk]
theorem fnC_congr {n : Nat} {h h' : Nat → Value} (e : ∀ i, i < n → h i = h' i) : fnC n h = fnC n h' := by
  unfold fnC
  congr 1
  apply List.map_congr_left
  intro i hi
  exact e i (by simpa using hi)
theorem fnC_set (n : Nat) (h : Nat → Value) (k : Nat) (v : Value) : (fnC n h).setIfInBounds k v = fnC n (fun i => if i = k then v else h i) := by
  apply Array.ext_getElem?
  intro i
  by_cases hi : i < n
  · rw [fnC_at _ _ _ hi]
    by_cases e : i = k
    · subst e
      rw [Array.getElem?_setIfInBounds_self_of_lt (by rw [fnC_size]; exact hi)]
      simp
    · rw [Array.getElem?_setIfInBounds_ne (fun x => e x.symm), fnC_at _ _ _ hi]
      simp [e]
  · rw [Array.getElem?_eq_none (by simp [fnC_size]; omega), Array.getElem?_eq_none (by simp [fnC_size]; omega)]

/-- Block g holds just these cells. -/
def RowF (w : World) (g : Nat) (t : TypeId) (n : Nat) (h : Nat → Value) : Prop := w.heap[g]? = some (.cells (fnC n h) t (0, 0))
section
variable {w w' : World} {g : Nat} {t : TypeId} {n : Nat} {h h' : Nat → Value}
theorem RowF.lt (r : RowF w g t n h) : g < w.heap.size := by
  unfold RowF at r
  rcases Nat.lt_or_ge g w.heap.size with hl | hg
  · exact hl
  · rw [Array.getElem?_eq_none hg] at r; cases r
theorem RowF.at_ (r : RowF w g t n h) (k : Nat) (hk : k < n) : w.cell? ⟨g, k, none⟩ = some (h k) := by
  unfold RowF at r
  simp [World.cell?, r, fnC_at n h k hk]
theorem RowF.thawed (r : RowF w g t n h) (o : Nat) : w.frozen? ⟨g, o, none⟩ = false := by
  unfold RowF at r
  simp [World.frozen?, r]
theorem RowF.below {B : Nat} (r : RowF w g t n h) (hb : Below B w w') (hg : g < B) : RowF w' g t n h := (hb.block g hg).trans r
theorem RowF.new (w : World) (t : TypeId) (n : Nat) (h : Nat → Value) : RowF (w.alloc (.cells (fnC n h) t)) w.heap.size t n h := heap_new w _
theorem RowF.alloc (r : RowF w g t n h) (o : Obj) : RowF (w.alloc o) g t n h := (Below.heap_alloc w o g r.lt).trans r
theorem RowF.far (r : RowF w g t n h) {a : Addr} (ha : g ≠ a.block) (u : Value) : RowF (w.setCell a u) g t n h := (Below.heap_setCell w a u g ha).trans r
theorem RowF.grown {row : Option Nat} (r : RowF w g t n h) (hg : w.grownBy w' row) (hr : some g ≠ row) : RowF w' g t n h := (hg.block g r.lt hr).trans r
theorem RowF.drew (r : RowF w g t n h) : RowF w.drew g t n h := r
theorem RowF.put (r : RowF w g t n h) (k : Nat) (v : Value) : RowF (w.setCell ⟨g, k, none⟩ v) g t n (fun i => if i = k then v else h i) := by
  unfold RowF at r ⊢
  rw [← fnC_set]
  simp [World.setCell, Array.getElem?_modify, r]
theorem RowF.congr (r : RowF w g t n h) (e : ∀ i, i < n → h i = h' i) : RowF w g t n h' := by
  unfold RowF at r ⊢
  rw [← fnC_congr e]; exact r
end

/-- All blocks but g and h are as they were. -/
structure Touch (g h : Nat) (w w' : World) : Prop where
  os : w'.os = w.os
  tape : w'.tape = w.tape
  output : w'.output = w.output
  size : w.heap.size ≤ w'.heap.size
  block : ∀ k, k < w.heap.size → k ≠ g → k ≠ h → w'.heap[k]? = w.heap[k]?
section
variable {g h : Nat} {w w' w2 : World}
theorem Touch.refl (g h : Nat) (w : World) : Touch g h w w := ⟨rfl, rfl, rfl, Nat.le_refl _, fun _ _ _ _ => rfl⟩
theorem Touch.trans (a : Touch g h w w') (b : Touch g h w' w2) : Touch g h w w2 :=
  ⟨b.os.trans a.os, b.tape.trans a.tape, b.output.trans a.output, Nat.le_trans a.size b.size, fun k hk h1 h2 => (b.block k (Nat.lt_of_lt_of_le hk a.size) h1 h2).trans (a.block k hk h1 h2)⟩
theorem Touch.drew (a : Touch g h w w') : Touch g h w w'.drew := ⟨a.os, a.tape, a.output, a.size, a.block⟩
theorem Touch.drewN (a : Touch g h w w') (n : Nat) : Touch g h w (w'.drewN n) := ⟨a.os, a.tape, a.output, a.size, a.block⟩
theorem Touch.below (a : Touch g h w w') (b : Below w'.heap.size w' w2) : Touch g h w w2 :=
  a.trans ⟨b.os, b.tape, b.output, b.size, fun k hk _ _ => b.block k hk⟩
theorem Touch.set1 (a : Touch g h w w') (k : Nat) (v : Value) : Touch g h w (w'.setCell ⟨g, k, none⟩ v) :=
  a.trans ⟨rfl, rfl, rfl, by simp [World.setCell], fun i _ h1 _ => Below.heap_setCell _ _ _ _ h1⟩
theorem Touch.set2 (a : Touch g h w w') (k : Nat) (v : Value) : Touch g h w (w'.setCell ⟨h, k, none⟩ v) :=
  a.trans ⟨rfl, rfl, rfl, by simp [World.setCell], fun i _ _ h2 => Below.heap_setCell _ _ _ _ h2⟩
theorem Touch.bel {B : Nat} {w0 : World} (a : Touch g h w w') (b : Below B w0 w) (hs : B ≤ w.heap.size) (hg : B ≤ g) (hh : B ≤ h) : Below B w0 w' :=
  b.trans ⟨a.os, a.tape, a.output, a.size, fun k hk => a.block k (by omega) (by omega) (by omega)⟩
theorem RowF.touch {k : Nat} {t : TypeId} {n : Nat} {f : Nat → Value} (r : RowF w k t n f) (a : Touch g h w w') (h1 : k ≠ g) (h2 : k ≠ h) : RowF w' k t n f := (a.block k r.lt h1 h2).trans r
end

/-- The slice at A reads as the numbers xs, and lies in blocks below B. -/
def Nts (w : World) (B : Nat) (A : Option Addr) (xs : List Nat) : Prop :=
  xs ≠ [] → ∃ g off, A = some ⟨g, off, none⟩ ∧ g < B ∧ ∀ i, i < xs.length → w.cell? ⟨g, off + i, none⟩ = some (.int .i64 ((xs.getD i 0 : Nat) : Int))
section
variable {w w' : World} {B : Nat} {A : Option Addr} {xs : List Nat}
theorem Nts.keep (h : Nts w B A xs) (hc : ∀ p : Addr, p.block < B → w'.cell? p = w.cell? p) : Nts w' B A xs := fun hx => by
  obtain ⟨g, off, e, hg, ha⟩ := h hx
  exact ⟨g, off, e, hg, fun i hi => (hc _ hg).trans (ha i hi)⟩
theorem Nts.below (h : Nts w B A xs) (hb : Below B w w') : Nts w' B A xs := h.keep fun _ hp => hb.cell hp
theorem Nts.more {B' : Nat} (h : Nts w B A xs) (hB : B ≤ B') : Nts w B' A xs := fun hx => by
  obtain ⟨g, off, e, hg, ha⟩ := h hx
  exact ⟨g, off, e, by omega, ha⟩
theorem Nts.at_ (h : Nts w B A xs) {k : Nat} (hk : k < xs.length) : ∃ g off, A = some ⟨g, off, none⟩ ∧ g < B ∧ w.cell? ⟨g, off + k, none⟩ = some (.int .i64 ((xs.getD k 0 : Nat) : Int)) := by
  obtain ⟨g, off, e, hg, ha⟩ := h (fun e => by subst e; simp at hk)
  exact ⟨g, off, e, hg, ha k hk⟩
end
def i64s (l : List Nat) : List Value := l.map fun x : Nat => Value.int .i64 (x : Int)
theorem i64s_snoc (l : List Nat) (x : Nat) : i64s l ++ [.int .i64 (x : Int)] = i64s (l ++ [x]) := by simp [i64s]
theorem i64s_len (l : List Nat) : (i64s l).length = l.length := by simp [i64s]
theorem i64s_at (l : List Nat) (i : Nat) (h : i < l.length) : (i64s l)[i]? = some (.int .i64 ((l.getD i 0 : Nat) : Int)) := by
  unfold i64s
  rw [List.getElem?_map, List.getElem?_eq_getElem h, List.getD_eq_getElem?_getD, List.getElem?_eq_getElem h]
  rfl
theorem Nts.of_own {w : World} {b : Nat} {v : Value} {xs : List Nat} (h : w.ownsRow b 3 1 v xs.length (i64s xs)) : ∃ A c, v = .slice A xs.length c ∧ Nts w w.heap.size A xs := by
  rcases Nat.eq_zero_or_pos xs.length with h0 | h0
  · obtain ⟨A, c, hv⟩ := own_form h
    exact ⟨A, c, hv, fun hne => absurd (List.eq_nil_of_length_eq_zero h0) hne⟩
  · obtain ⟨g, c, rfl, _, hl⟩ := own_pos h h0
    refine ⟨_, c, rfl, fun _ => ⟨g, 0, rfl, hl, fun i hi => ?_⟩⟩
    have := h.cellAt i (by omega)
    rw [i64s_at xs i hi] at this
    rw [Nat.zero_add]
    exact this
theorem int_info : (Tryd.prog.info? 3).map (fun i => (i.zero, i.size, i.bytes)) = some (some (.int .i64 0), 1, 8) := by kernel_rfl
theorem made_one (z : Value) (h : z.cells = #[z]) (n : Nat) : madeCells z.cells (n * 1) = fnC n (fun _ => z) := by
  apply Array.ext_getElem?
  intro i
  by_cases hi : i < n
  · rw [fnC_at _ _ _ hi, h]
    simp [madeCells, hi, Nat.mod_one]
  · rw [Array.getElem?_eq_none (by rw [size_madeCells]; omega), Array.getElem?_eq_none (by rw [fnC_size]; omega)]

theorem bel_setRow {B : Nat} {a w : World} (h : Below B a w) (g : Nat) (cs : Array Value) (hg : B ≤ g) : Below B a (w.setRow g cs) :=
  ⟨h.os, h.tape, h.output, by simpa using h.size, fun k hk => (setRow_other w g k cs (by omega)).trans (h.block k hk)⟩
/-- Block g holds just these cells. -/
def RowA (w : World) (g : Nat) (t : TypeId) (cs : Array Value) : Prop := w.heap[g]? = some (.cells cs t (0, 0))
section
variable {w w' : World} {g : Nat} {t : TypeId} {cs : Array Value}
theorem RowA.lt (r : RowA w g t cs) : g < w.heap.size := by
  unfold RowA at r
  rcases Nat.lt_or_ge g w.heap.size with hl | hg
  · exact hl
  · rw [Array.getElem?_eq_none hg] at r; cases r
theorem RowA.new (w : World) (t : TypeId) (cs : Array Value) : RowA (w.alloc (.cells cs t)) w.heap.size t cs := heap_new w _
theorem RowA.row (r : RowA w g t cs) (cs' : Array Value) : RowA (w.setRow g cs') g t cs' := setRow_heap w g _ _ _ _ r
theorem RowA.apart {j : Nat} (r : RowA w g t cs) (cs' : Array Value) (hj : g ≠ j) : RowA (w.setRow j cs') g t cs := (setRow_other w j g cs' hj).trans r
theorem RowA.alloc (r : RowA w g t cs) (o : Obj) : RowA (w.alloc o) g t cs := (Below.heap_alloc w o g r.lt).trans r
theorem RowA.below {B : Nat} (r : RowA w g t cs) (hb : Below B w w') (hg : g < B) : RowA w' g t cs := (hb.block g hg).trans r
theorem RowA.drewN (r : RowA w g t cs) (n : Nat) : RowA (w.drewN n) g t cs := r
theorem RowA.at_ (r : RowA w g t cs) {k : Nat} {v : Value} (hk : cs[k]? = some v) : w.cell? ⟨g, k, none⟩ = some v := by
  unfold RowA at r
  simp [World.cell?, r, hk]
theorem RowA.thawed (r : RowA w g t cs) (o : Nat) : w.frozen? ⟨g, o, none⟩ = false := by
  unfold RowA at r
  simp [World.frozen?, r]
end

end Go.Proofs.YtghjkbjpdjlddaaDoor
