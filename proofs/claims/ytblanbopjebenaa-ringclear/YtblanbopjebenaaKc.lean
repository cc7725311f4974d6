/- What makes a ring, and what lets its counts grow, or go: New, Clear, Inc. -/
import Derived.Test.YtblanbopjebenaaKb
namespace Go.Proofs.Ytblanbopjebenaa
open Go.RowKit

/-- Block g is a ring of the rising counts C; k is what was done. -/
def RingS (w : World) (g h n : Nat) (C : List Nat) (k : Nat) : Prop := Rise n C ∧ ∃ now old f, Raw w g h n now old k f C

section
variable {w w' : World} {g h n now old k : Nat} {f : Nat → Int} {C : List Nat}
theorem RingS.belw (r : RingS w g h n C k) (hb : Below w.heap.size w w') : RingS w' g h n C k := by
  obtain ⟨h1, now, old, f, r⟩ := r
  exact ⟨h1, now, old, f, r.belw hb⟩
theorem RingS.drewN (r : RingS w g h n C k) (m : Nat) : RingS (w.drewN m) g h n C k := by
  obtain ⟨h1, now, old, f, r⟩ := r
  exact ⟨h1, now, old, f, r.drewN m⟩
theorem RingS.touch {g' h' : Nat} (r : RingS w g h n C k) (t : Touch g' h' w w') (a1 : g ≠ g') (a2 : g ≠ h') (a3 : h ≠ g') (a4 : h ≠ h') : RingS w' g h n C k := by
  obtain ⟨h1, now, old, f, r⟩ := r
  exact ⟨h1, now, old, f, r.touch t a1 a2 a3 a4⟩
theorem RingS.lts (r : RingS w g h n C k) : g < w.heap.size ∧ h < w.heap.size := by
  obtain ⟨h1, now, old, f, r⟩ := r
  exact ⟨r.glt, r.hlt⟩
theorem rise_le {n : Nat} {C : List Nat} (h : Rise n C) (hn : n ≤ 4096) : ∀ x ∈ C, x ≤ 4096 := fun x hx => Nat.le_trans (h.2 x hx).2 hn

theorem Raw.work (r : Raw w g h n now old k f C) (hk : k + 1 ≤ 1000000) : Raw (w.setCell ⟨g, 5, none⟩ (.int .i64 ((k : Int) + 1))) g h n now old (k + 1) f C := by
  refine ⟨?_, r.row.far (fun e => r.far e.symm) _, r.far, r.n1, r.n2, r.hold, Nat.le_succ_of_le r.hnow, hk, r.len, r.le, r.rep⟩
  have := r.blk
  simp [World.setCell, Array.getElem?_modify, this]
theorem Raw.clear (r : Raw w g h n now old k f C) : Raw (w.setCell ⟨g, 4, none⟩ (.int .i64 0)) g h n now old k f [] := by
  refine ⟨?_, r.row.far (fun e => r.far e.symm) _, r.far, r.n1, r.n2, r.hold, r.hnow, r.hk, Nat.zero_le _, by simp, rep_nil _ _ _ _⟩
  have := r.blk
  simp [World.setCell, Array.getElem?_modify, this]
theorem Raw.tick (r : Raw w g h n now old k f C) (hn : now + 1 ≤ k) (hc : ∀ x ∈ C, x ≤ 4096) : Raw (w.setCell ⟨g, 1, none⟩ (.int .i64 ((now : Int) + 1))) g h n (now + 1) old k f (C.map (· + 1)) := by
  refine ⟨?_, r.row.far (fun e => r.far e.symm) _, r.far, r.n1, r.n2, r.hold, hn, r.hk, by rw [List.length_map]; exact r.len, fun x hx => ?_, rep_inc r.rep⟩
  · have := r.blk
    simp [World.setCell, Array.getElem?_modify, this]
  · obtain ⟨y, hy, rfl⟩ := List.mem_map.1 hx
    have := hc y hy
    omega
theorem Raw.drop {D : List Nat} {x : Nat} (r : Raw w g h n now old k f (D ++ [x])) : Raw ((w.setCell ⟨g, 3, none⟩ (.int .i64 (((old + 1) % n : Nat) : Int))).setCell ⟨g, 4, none⟩ (.int .i64 (D.length : Int))) g h n now ((old + 1) % n) k f D := by
  have hl := r.len
  rw [List.length_append, List.length_singleton] at hl
  refine ⟨?_, (r.row.far (fun e => r.far e.symm) _).far (fun e => r.far e.symm) _, r.far, r.n1, r.n2, Nat.mod_lt _ r.n1, r.hnow, r.hk, by omega, fun y hy => r.le y (by simp [hy]), rep_drop r.rep⟩
  have := r.blk
  simp [World.setCell, Array.getElem?_modify, this]
end

theorem make_ints (n : Nat) (hn : n ≤ 1000000) (w : World) : (Instr.makeSlice 32 (.int .i64 (n : Int)) (.int .i64 (n : Int))).run Try.prog w =
    .ok (.slice (some ⟨w.heap.size, 0, none⟩) n n) (w.alloc (.cells (fnC n (fun _ => .int .i64 0)) 3)) := by
  obtain ⟨i0, hi0, hz0, hz1, hz2⟩ := info_parts int_info
  have := run_make (P := Try.prog) w 32 3 i0 _ Try.underlying32 hi0 hz0 .i64 .i64 (n : Int) (n : Int) (by omega) (Int.le_refl _) (by rw [hz2]; omega) (by omega)
  rw [this, hz1, Int.toNat_natCast, made_one _ rfl]

theorem new_bad (m : Int) (w : World) (h : m < 1 ∨ m > 4096) : Calls Try.prog 10 #[.int .i64 m] w fun e w' => e = .returned (.tuple #[.pointer none, .int .i64 1]) ∧ w' = w := by
  by_cases h1 : m < 1
  · go_enter Try.func10, Try.ntmps10
    go_wp2
    go_ret2
    exact ⟨rfl, rfl⟩
  · have h2 : m > 4096 := by omega
    clear h
    go_enter Try.func10, Try.ntmps10
    go_wp2
    go_ret2
    exact ⟨rfl, rfl⟩

set_option maxHeartbeats 400000 in
theorem new_any (n : Nat) (w : World) (h1 : 1 ≤ n) (h2 : n ≤ 4096) :
    Calls Try.prog 10 #[.int .i64 (n : Int)] w fun e w' => e = .returned (.tuple #[.pointer (some ⟨w.heap.size + 1, 0, none⟩), .int .i64 0]) ∧ RingS w' (w.heap.size + 1) w.heap.size n [] 0 ∧ Below w.heap.size w w' := by
  have hmk := make_ints n (by omega)
  go_enter Try.func10, Try.ntmps10
  go_wp2
  go_ret2
  refine ⟨rfl, ⟨rise_nil _, 0, 0, fun _ => 0, ?_, (RowF.new w 3 n fun _ => .int .i64 0).alloc _, by omega, h1, h2, h1, Nat.le_refl _, by omega, Nat.zero_le _, by simp, rep_nil _ _ _ _⟩, ((Below.refl _ _).alloc (Nat.le_refl _) _).alloc (by simp) _⟩
  have := heap_new (w.alloc (.cells (fnC n (fun _ => .int .i64 0)) 3)) (.cells #[.int .i64 (n : Int), .int .i64 0, .slice (some ⟨w.heap.size, 0, none⟩) n n, .int .i64 0, .int .i64 0, .int .i64 0] 48)
  rw [World.size_alloc] at this
  exact this

set_option maxHeartbeats 400000 in
theorem clear_any {w : World} {g h n k : Nat} {C : List Nat} (r : RingS w g h n C k) (hk : k + 1 ≤ 1000000) :
    Calls Try.prog 26 #[.pointer (some ⟨g, 0, none⟩)] w fun e w' => e = .returned (.tuple #[]) ∧ RingS w' g h n [] (k + 1) ∧ Touch g h w w' := by
  obtain ⟨hr, now, old, f, r⟩ := r
  obtain ⟨c0, c1, c2, c3, c4, c5⟩ := r.cells
  have ht := r.thawed
  go_enter Try.func26, Try.ntmps26
  go_wp2
  go_end0
  exact ⟨rfl, ⟨rise_nil _, now, old, f, (r.work hk).clear⟩, ((Touch.refl g h w).set1 _ _).set1 _ _⟩
theorem clear_nil (w : World) : Calls Try.prog 26 #[.pointer none] w fun e w' => e = .returned (.tuple #[]) ∧ w' = w := by
  go_enter Try.func26, Try.ntmps26
  go_wp2
  refine bodyPost_ret (results_none rfl _ _ _) rfl ?_
  exact ⟨rfl, rfl⟩
theorem inc_nilr (w : World) : Calls Try.prog 25 #[.pointer none] w fun e w' => e = .returned (.tuple #[]) ∧ w' = w := by
  go_enter Try.func25, Try.ntmps25
  go_wp2
  refine bodyPost_ret (results_none rfl _ _ _) rfl ?_
  exact ⟨rfl, rfl⟩
theorem put_nilr (w : World) : Calls Try.prog 24 #[.pointer none] w fun e w' => e = .returned (.tuple #[]) ∧ w' = w := by
  go_enter Try.func24, Try.ntmps24
  go_wp2
  refine bodyPost_ret (results_none rfl _ _ _) rfl ?_
  exact ⟨rfl, rfl⟩

theorem last_map (C : List Nat) (h : C ≠ []) : lastN (C.map (· + 1)) = lastN C + 1 := by
  obtain ⟨D, x, rfl⟩ := snoc_of h
  simp [lastN]
theorem last_le {n : Nat} {C : List Nat} (h : Rise n C) : lastN C ≤ n := by
  by_cases hc : C = []
  · subst hc; exact Nat.zero_le _
  · obtain ⟨D, x, rfl⟩ := snoc_of hc
    have := (h.2 x (by simp)).2
    simpa [lastN] using this
theorem someN_map (C : List Nat) : someN (C.map (· + 1)) = someN C := by simp [someN]

set_option maxHeartbeats 1000000 in
theorem inc_any {w : World} {g h n k : Nat} {C : List Nat} (r : RingS w g h n C k) (hk : k + 1 ≤ 1000000) :
    Calls Try.prog 25 #[.pointer (some ⟨g, 0, none⟩)] w fun e w' => e = .returned (.tuple #[]) ∧ RingS w' g h n (incL n C) (k + 1) ∧ Touch g h w w' := by
  obtain ⟨hr, now, old, f, r⟩ := r
  obtain ⟨c0, c1, c2, c3, c4, c5⟩ := r.cells
  have ht := r.thawed
  have h4 := r.hnow
  have hn2 := r.n2
  go_enter Try.func25, Try.ntmps25
  go_wp2_with fail
  have R := (r.work hk).tick (by omega) (rise_le hr hn2)
  have T := ((Touch.refl g h w).set1 5 (.int .i64 ((k : Int) + 1))).set1 1 (.int .i64 ((now : Int) + 1))
  generalize (w.setCell ⟨g, 5, none⟩ (.int .i64 ((k : Int) + 1))).setCell ⟨g, 1, none⟩ (.int .i64 ((now : Int) + 1)) = w1 at *
  clear c0 c1 c2 c3 c4 c5 ht
  refine (max_any R).mono ?_
  rintro e w2 ⟨rfl, m, rfl⟩
  replace R := R.drewN m
  replace T := T.drewN m
  generalize w1.drewN m = w2 at *
  obtain ⟨c0, c1, c2, c3, c4, c5⟩ := R.cells
  have ht := R.thawed
  rw [someN_map]
  by_cases hc : C = []
  · subst hc
    go_wp2
    go_end0
    exact ⟨rfl, ⟨rise_nil _, _, _, _, R⟩, T⟩
  · rw [last_map C hc]
    have hs : someN C = true := someN_yes (len_ne hc)
    rw [hs]
    have hle := last_le hr
    by_cases hl : lastN C < n
    · have HI := hidd (inc_keep hr hl)
      have hq : ¬ ((lastN C + 1 : Nat) : Int) > (n : Int) := by omega
      generalize lastN C + 1 = x at *
      go_wp2
      go_end0
      refine ⟨rfl, ⟨rise_inc hr, ?_⟩, T⟩
      rw [HI.out]
      exact ⟨_, _, _, R⟩
    · obtain ⟨D, x, rfl⟩ := snoc_of hc
      have hx : lastN (D ++ [x]) = x := by simp [lastN]
      have hxn : x = n := by omega
      have HI := hidd (inc_drop (by rw [hxn] at hr; exact hr))
      have hq : ((lastN (D ++ [x]) + 1 : Nat) : Int) > (n : Int) := by omega
      have hp := place_any R 1 (by omega)
      rw [List.map_append] at R
      have hL : (((D ++ [x]).map (· + 1)).length : Int) = (D.length : Int) + 1 := by simp
      rw [hL] at c4
      have hD : (D.length : Int) + 1 ≤ 4096 := by have := R.len; simp at this; omega
      subst hxn
      generalize lastN (D ++ [x]) + 1 = y at *
      go_wp2_with fail
      refine hp.mono ?_
      rintro e w3 ⟨rfl, m2, rfl⟩
      have R3 := (R.drewN m2).drop
      rw [List.length_map] at R3
      have T3 := ((T.drewN m2).set1 3 (.int .i64 (((old + 1) % x : Nat) : Int))).set1 4 (.int .i64 (D.length : Int))
      generalize (old + 1) % x = j at *
      go_wp2
      go_end0
      refine ⟨rfl, ⟨rise_inc hr, ?_⟩, ?_⟩
      · rw [HI.out]
        exact ⟨_, _, _, R3⟩
      · exact T3
end Go.Proofs.Ytblanbopjebenaa
