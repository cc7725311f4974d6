/- A ring in memory, and what only reads it: place, count, Len, Work, Min, Max. -/
import Derived.Test.YtblanbopjebenaaGn
import Derived.Test.YtblanbopjebenaaKa
import Derived.Deep.QuietTactic
import Derived.BigQuiet
import Derived.Handy
namespace Go.Proofs.Ytblanbopjebenaa
open Go.RowKit

/-- Block g is a ring of counts C, up to n, whose times lie in block h. -/
structure Raw (w : World) (g h n now old k : Nat) (f : Nat → Int) (C : List Nat) : Prop where
  blk : w.heap[g]? = some (.cells #[.int .i64 (n : Int), .int .i64 (now : Int), .slice (some ⟨h, 0, none⟩) n n, .int .i64 (old : Int), .int .i64 (C.length : Int), .int .i64 (k : Int)] 48 (0, 0))
  row : RowF w h 3 n (fun i => .int .i64 (f i))
  far : g ≠ h
  n1 : 1 ≤ n
  n2 : n ≤ 4096
  hold : old < n
  hnow : now ≤ k
  hk : k ≤ 1000000
  len : C.length ≤ n
  le : ∀ x ∈ C, x ≤ 5000
  rep : Rep n now old f C

section
variable {w w' : World} {g h n now old k : Nat} {f : Nat → Int} {C : List Nat}
theorem Raw.glt (r : Raw w g h n now old k f C) : g < w.heap.size := by
  rcases Nat.lt_or_ge g w.heap.size with hl | hg
  · exact hl
  · have := r.blk; rw [Array.getElem?_eq_none hg] at this; cases this
theorem Raw.hlt (r : Raw w g h n now old k f C) : h < w.heap.size := r.row.lt
theorem Raw.cells (r : Raw w g h n now old k f C) : w.cell? ⟨g, 0, none⟩ = some (.int .i64 (n : Int)) ∧ w.cell? ⟨g, 1, none⟩ = some (.int .i64 (now : Int)) ∧ w.cell? ⟨g, 2, none⟩ = some (.slice (some ⟨h, 0, none⟩) n n) ∧
    w.cell? ⟨g, 3, none⟩ = some (.int .i64 (old : Int)) ∧ w.cell? ⟨g, 4, none⟩ = some (.int .i64 (C.length : Int)) ∧ w.cell? ⟨g, 5, none⟩ = some (.int .i64 (k : Int)) := by
  have := r.blk
  simp [World.cell?, this]
theorem Raw.thawed (r : Raw w g h n now old k f C) (o : Nat) : w.frozen? ⟨g, o, none⟩ = false := by
  have := r.blk
  simp [World.frozen?, this]
theorem Raw.keep (r : Raw w g h n now old k f C) (h1 : w'.heap[g]? = w.heap[g]?) (h2 : w'.heap[h]? = w.heap[h]?) : Raw w' g h n now old k f C :=
  ⟨h1.trans r.blk, h2.trans r.row, r.far, r.n1, r.n2, r.hold, r.hnow, r.hk, r.len, r.le, r.rep⟩
theorem Raw.below {B : Nat} (r : Raw w g h n now old k f C) (hb : Below B w w') (hg : g < B) (hh : h < B) : Raw w' g h n now old k f C := r.keep (hb.block g hg) (hb.block h hh)
theorem Raw.belw (r : Raw w g h n now old k f C) (hb : Below w.heap.size w w') : Raw w' g h n now old k f C := r.below hb r.glt r.hlt
theorem Raw.drew (r : Raw w g h n now old k f C) : Raw w.drew g h n now old k f C := r.keep rfl rfl
theorem Raw.drewN (r : Raw w g h n now old k f C) (m : Nat) : Raw (w.drewN m) g h n now old k f C := r.keep rfl rfl
theorem Raw.touch {g' h' : Nat} (r : Raw w g h n now old k f C) (t : Touch g' h' w w') (a1 : g ≠ g') (a2 : g ≠ h') (a3 : h ≠ g') (a4 : h ≠ h') : Raw w' g h n now old k f C :=
  r.keep (t.block g r.glt a1 a2) (t.block h r.hlt a3 a4)
end

set_option maxHeartbeats 400000 in
theorem place_any {w : World} {g h n now old k : Nat} {f : Nat → Int} {C : List Nat} (r : Raw w g h n now old k f C) (i : Nat) (hi : i ≤ 4096) :
    Calls Try.prog 28 #[.pointer (some ⟨g, 0, none⟩), .int .i64 (i : Int)] w fun e w' => e = .returned (.int .i64 (((old + i) % n : Nat) : Int)) ∧ ∃ m, w' = w.drewN m := by
  obtain ⟨c0, c1, c2, c3, c4, c5⟩ := r.cells
  have h1 := r.n1
  have h2 := r.n2
  have h3 := r.hold
  have hz : ¬ ((n : Int) = 0) := by omega
  have hq : IntKind.i64.wrap (Int.tmod ((old : Int) + (i : Int)) (n : Int)) = (((old + i) % n : Nat) : Int) := by
    rw [Int.tmod_eq_emod_of_nonneg (by omega)]
    have : ((old : Int) + (i : Int)) % (n : Int) = (((old + i) % n : Nat) : Int) := by norm_cast
    rw [this, IntKind.wrap_i64]
    have := Nat.mod_lt (old + i) (by omega : 0 < n)
    omega
  go_enter Try.func28, Try.ntmps28
  go_wp2
  go_quiet (fail)
  go_wp2
  go_ret
  exact ⟨rfl, _, rfl⟩

/-- Count number i from the greatest on. -/
theorem Rep.at_ {n now old : Nat} {f : Nat → Int} {C : List Nat} (h : Rep n now old f C) {i : Nat} (hi : i < C.length) : f ((old + i) % n) = (now : Int) + 1 - ((C.getD (C.length - 1 - i) 0 : Nat) : Int) := by
  have := h (C.length - 1 - i) (by omega)
  rw [show C.length - 1 - (C.length - 1 - i) = i from by omega] at this
  exact this

set_option maxHeartbeats 400000 in
theorem count_any {w : World} {g h n now old k : Nat} {f : Nat → Int} {C : List Nat} (r : Raw w g h n now old k f C) (i : Nat) (hi : i < C.length) :
    Calls Try.prog 27 #[.pointer (some ⟨g, 0, none⟩), .int .i64 (i : Int)] w fun e w' => e = .returned (.int .i64 ((C.getD (C.length - 1 - i) 0 : Nat) : Int)) ∧ ∃ m, w' = w.drewN m := by
  obtain ⟨c0, c1, c2, c3, c4, c5⟩ := r.cells
  have h1 := r.n1
  have h2 := r.n2
  have h4 := r.hnow
  have h5 := r.hk
  have hlen := r.len
  have hm := Nat.mod_lt (old + i) (by omega : 0 < n)
  have hx := r.row.at_ ((old + i) % n) hm
  rw [r.rep.at_ hi] at hx
  have hle := r.le _ (getD_mem (by omega : C.length - 1 - i < C.length))
  have hp := fun m => place_any (r.drewN m) i (by omega)
  generalize C.getD (C.length - 1 - i) 0 = c at *
  generalize (old + i) % n = j at *
  have hj : (j : Int) < (n : Int) := by omega
  go_enter Try.func27, Try.ntmps27
  go_wp2
  go_quiet ((go_at_call 28; exact Calls.quiet_of (hp _)))
  go_wp2
  go_ret
  exact ⟨ret_int (by omega), _, rfl⟩

set_option maxHeartbeats 400000 in
theorem len_any {w : World} {g h n now old k : Nat} {f : Nat → Int} {C : List Nat} (r : Raw w g h n now old k f C) :
    Calls Try.prog 22 #[.pointer (some ⟨g, 0, none⟩)] w fun e w' => e = .returned (.int .i64 (C.length : Int)) ∧ w' = w := by
  obtain ⟨c0, c1, c2, c3, c4, c5⟩ := r.cells
  go_enter Try.func22, Try.ntmps22
  go_wp2
  go_ret
  exact ⟨rfl, rfl⟩
theorem len_nil (w : World) : Calls Try.prog 22 #[.pointer none] w fun e w' => e = .returned (.int .i64 0) ∧ w' = w := by
  go_enter Try.func22, Try.ntmps22
  go_wp2
  go_ret
  exact ⟨rfl, rfl⟩
theorem work_any {w : World} {g h n now old k : Nat} {f : Nat → Int} {C : List Nat} (r : Raw w g h n now old k f C) :
    Calls Try.prog 23 #[.pointer (some ⟨g, 0, none⟩)] w fun e w' => e = .returned (.int .i64 (k : Int)) ∧ w' = w := by
  obtain ⟨c0, c1, c2, c3, c4, c5⟩ := r.cells
  go_enter Try.func23, Try.ntmps23
  go_wp2
  go_ret
  exact ⟨rfl, rfl⟩
theorem work_nil (w : World) : Calls Try.prog 23 #[.pointer none] w fun e w' => e = .returned (.int .i64 0) ∧ w' = w := by
  go_enter Try.func23, Try.ntmps23
  go_wp2
  go_ret
  exact ⟨rfl, rfl⟩

/-- The least count, the greatest one, and whether there is one. -/
def headN (C : List Nat) : Nat := C.headD 0
def lastN (C : List Nat) : Nat := C.getLastD 0
def someN (C : List Nat) : Bool := decide (0 < C.length)
theorem headD_at (C : List Nat) : headN C = C.getD 0 0 := by cases C <;> rfl
theorem someN_yes {C : List Nat} (h : 0 < C.length) : someN C = true := decide_eq_true h
theorem len_ne {C : List Nat} (h : C ≠ []) : 0 < C.length := by cases C; exact absurd rfl h; simp

set_option maxHeartbeats 400000 in
theorem min_any {w : World} {g h n now old k : Nat} {f : Nat → Int} {C : List Nat} (r : Raw w g h n now old k f C) :
    Calls Try.prog 18 #[.pointer (some ⟨g, 0, none⟩)] w fun e w' => e = .returned (.tuple #[.int .i64 ((headN C : Nat) : Int), .bool (someN C)]) ∧ ∃ m, w' = w.drewN m := by
  obtain ⟨c0, c1, c2, c3, c4, c5⟩ := r.cells
  have h2 := r.n2
  have hlen := r.len
  go_enter Try.func18, Try.ntmps18
  go_wp2_with fail
  refine (len_any r).mono ?_
  rintro e w1 ⟨rfl, rfl⟩
  by_cases hc : C = []
  · subst hc
    go_wp2
    go_ret2
    exact ⟨rfl, 0, rfl⟩
  · have hl := len_ne hc
    have hcn := count_any r (C.length - 1) (by omega)
    rw [show C.length - 1 - (C.length - 1) = 0 from by omega, ← headD_at, show ((C.length - 1 : Nat) : Int) = (C.length : Int) - 1 from by omega] at hcn
    have HD := hidd (someN_yes hl)
    have hz : ¬ ((C.length : Int) = 0) := by omega
    go_wp2_with fail
    refine hcn.mono ?_
    rintro e w2 ⟨rfl, m, rfl⟩
    go_wp2
    go_ret2
    exact ⟨by rw [HD.out]; rfl, m, rfl⟩
set_option maxHeartbeats 400000 in
theorem max_any {w : World} {g h n now old k : Nat} {f : Nat → Int} {C : List Nat} (r : Raw w g h n now old k f C) :
    Calls Try.prog 19 #[.pointer (some ⟨g, 0, none⟩)] w fun e w' => e = .returned (.tuple #[.int .i64 ((lastN C : Nat) : Int), .bool (someN C)]) ∧ ∃ m, w' = w.drewN m := by
  obtain ⟨c0, c1, c2, c3, c4, c5⟩ := r.cells
  have h2 := r.n2
  have hlen := r.len
  go_enter Try.func19, Try.ntmps19
  go_wp2_with fail
  refine (len_any r).mono ?_
  rintro e w1 ⟨rfl, rfl⟩
  by_cases hc : C = []
  · subst hc
    go_wp2
    go_ret2
    exact ⟨rfl, 0, rfl⟩
  · have hl := len_ne hc
    have hcn := count_any r 0 hl
    rw [show C.length - 1 - 0 = C.length - 1 from rfl, getD_last C hc, show C.getLastD 0 = lastN C from rfl] at hcn
    have HD := hidd (someN_yes hl)
    have hz : ¬ ((C.length : Int) = 0) := by omega
    go_wp2_with fail
    refine hcn.mono ?_
    rintro e w2 ⟨rfl, m, rfl⟩
    go_wp2
    go_ret2
    exact ⟨by rw [HD.out]; rfl, m, rfl⟩
theorem min_nil (w : World) : Calls Try.prog 18 #[.pointer none] w fun e w' => e = .returned (.tuple #[.int .i64 0, .bool false]) ∧ w' = w := by
  go_enter Try.func18, Try.ntmps18
  go_wp2_with fail
  refine (len_nil w).mono ?_
  rintro e w1 ⟨rfl, rfl⟩
  go_wp2
  go_ret2
  exact ⟨rfl, rfl⟩
theorem max_nil (w : World) : Calls Try.prog 19 #[.pointer none] w fun e w' => e = .returned (.tuple #[.int .i64 0, .bool false]) ∧ w' = w := by
  go_enter Try.func19, Try.ntmps19
  go_wp2_with fail
  refine (len_nil w).mono ?_
  rintro e w1 ⟨rfl, rfl⟩
  go_wp2
  go_ret2
  exact ⟨rfl, rfl⟩

end Go.Proofs.Ytblanbopjebenaa
