/- The walk of BsetSizes: how many bytes two sets have together; how many a range has. -/
import Derived.Test.YtbheccbbkolieaaSl
import Derived.Test.YtbheccbbkolieaaRh
namespace Go.Proofs.Ytbheccbbkolieaa
open Go.RowKit

def cnt (p : Nat → Bool) : Nat := (lstB p 256).length
theorem cnt_eq (p : Nat → Bool) : cnt p = (List.range 256).countP p := by
  unfold cnt lstB
  rw [List.length_map, List.countP_eq_length_filter]
theorem cnt_le (p : Nat → Bool) : cnt p ≤ 256 := lst_len p 256
theorem count_or (p q : Nat → Bool) (l : List Nat) : l.countP (orB p q) + l.countP (andB p q) = l.countP p + l.countP q := by
  induction l with
  | nil => rfl
  | cons x r ih =>
    simp only [List.countP_cons]
    have h1 : orB p q x = (p x || q x) := rfl
    have h2 : andB p q x = (p x && q x) := rfl
    rw [h1, h2]
    cases p x <;> cases q x <;> simp <;> omega
theorem count_not (p : Nat → Bool) (l : List Nat) : l.countP p + l.countP (notB p) = l.length := by
  induction l with
  | nil => rfl
  | cons x r ih =>
    simp only [List.countP_cons, List.length_cons]
    have h1 : notB p x = !p x := rfl
    rw [h1]
    cases p x <;> simp <;> omega
theorem cnt_or (p q : Nat → Bool) : cnt (orB p q) + cnt (andB p q) = cnt p + cnt q := by
  rw [cnt_eq, cnt_eq, cnt_eq, cnt_eq]; exact count_or p q _
theorem cnt_not (p : Nat → Bool) : cnt p + cnt (notB p) = 256 := by
  rw [cnt_eq, cnt_eq, count_not]; simp
theorem cnt_rng (lo hi : Int) (l0 : 0 ≤ lo) (h1 : hi ≤ 255) : (cnt (rngB lo (hi + 1)) : Int) = if hi - lo + 1 < 0 then 0 else hi - lo + 1 := by
  have key : ∀ n : Nat, (((List.range n).countP (rngB lo (hi + 1)) : Nat) : Int) = if min (n : Int) (hi + 1) - lo < 0 then 0 else min (n : Int) (hi + 1) - lo := by
    intro n
    induction n with
    | zero => simp; omega
    | succ n ih =>
      rw [List.range_succ, List.countP_append]
      have h2 : [n].countP (rngB lo (hi + 1)) = if lo ≤ (n : Int) ∧ (n : Int) < hi + 1 then 1 else 0 := by
        simp [List.countP_cons, rngB]
      rw [h2, Int.natCast_add, ih]
      by_cases hc : lo ≤ (n : Int) ∧ (n : Int) < hi + 1
      · rw [if_pos hc]; split <;> split <;> omega
      · rw [if_neg hc]; split <;> split <;> omega
  rw [cnt_eq, key 256]
  have e : min ((256 : Nat) : Int) (hi + 1) = hi + 1 := by omega
  rw [e]
  split <;> split <;> omega

set_option maxRecDepth 100000 in
set_option maxHeartbeats 1000000 in
theorem n_any (p : Nat → Bool) (w : World) :
    Calls Try.prog 31 #[.agg #[.int .u64 (W (p) 0), .int .u64 (W (p) 1), .int .u64 (W (p) 2), .int .u64 (W (p) 3)]] w fun e w' => e = .returned (.int .i64 (cnt p)) ∧ Below w.heap.size w w' := by
  go_enter Try.func31, Try.ntmps31
  go_wp2_with fail
  refine (list_any p _).mono ?_
  rintro e w1 ⟨v1, rfl, hown1, hb1⟩
  obtain ⟨A, c, hv⟩ := own_form hown1
  subst hv
  have hb2 := bel1 hb1
  clear hown1 hb1
  go_wp2
  go_ret
  exact ⟨rfl, hb2⟩

structure SizS (w : World) (p q : Nat → Bool) (v : World) : Prop where
  box : Box2 v w.heap.size (w.heap.size + 1) p q
  bel : Below w.heap.size w v
theorem SizS.below {w : World} {p q : Nat → Bool} {v v' : World} (h : SizS w p q v) (hb : Below v.heap.size v v') : SizS w p q v' := ⟨h.box.below hb, h.bel.trans (hb.mono h.bel.size)⟩


/-- What each slot of the last region holds. -/
def SizGV (w : World) (p q : Nat → Bool) (lo hi : Int) (t : Nat) : Option Value :=
  match t with
  | 2 => some (.int .u8 lo)
  | 3 => some (.int .u8 hi)
  | 4 => some (.pointer (some ⟨w.heap.size, 0, none⟩))
  | 5 => some (.pointer (some ⟨w.heap.size + 1, 0, none⟩))
  | 8 => some (.bool true)
  | 9 => some (.bool true)
  | 10 => some (.func (.func 31) #[] #[])
  | 12 => some (.bool true)
  | 13 => some (.bool true)
  | 14 => some (.func (.func 31) #[] #[])
  | 15 => some (.agg #[.int .u64 (W (p) 0), .int .u64 (W (p) 1), .int .u64 (W (p) 2), .int .u64 (W (p) 3)])
  | 16 => some (.agg #[.int .u64 (W (q) 0), .int .u64 (W (q) 1), .int .u64 (W (q) 2), .int .u64 (W (q) 3)])
  | 18 => some (.agg #[.int .u64 (W (orB p q) 0), .int .u64 (W (orB p q) 1), .int .u64 (W (orB p q) 2), .int .u64 (W (orB p q) 3)])
  | 19 => some (.int .i64 (cnt (orB p q)))
  | 20 => some (.func (.func 31) #[] #[])
  | 21 => some (.agg #[.int .u64 (W (p) 0), .int .u64 (W (p) 1), .int .u64 (W (p) 2), .int .u64 (W (p) 3)])
  | 22 => some (.agg #[.int .u64 (W (q) 0), .int .u64 (W (q) 1), .int .u64 (W (q) 2), .int .u64 (W (q) 3)])
  | 24 => some (.agg #[.int .u64 (W (andB p q) 0), .int .u64 (W (andB p q) 1), .int .u64 (W (andB p q) 2), .int .u64 (W (andB p q) 3)])
  | 25 => some (.int .i64 (cnt (andB p q)))
  | 26 => some (.int .i64 ((cnt (orB p q) : Int) + (cnt (andB p q) : Int)))
  | 27 => some (.func (.func 31) #[] #[])
  | 28 => some (.agg #[.int .u64 (W (p) 0), .int .u64 (W (p) 1), .int .u64 (W (p) 2), .int .u64 (W (p) 3)])
  | 29 => some (.int .i64 (cnt p))
  | 30 => some (.func (.func 31) #[] #[])
  | 31 => some (.agg #[.int .u64 (W (q) 0), .int .u64 (W (q) 1), .int .u64 (W (q) 2), .int .u64 (W (q) 3)])
  | 32 => some (.int .i64 (cnt q))
  | 33 => some (.int .i64 ((cnt p : Int) + (cnt q : Int)))
  | 34 => some (.bool true)
  | 35 => some (.bool true)
  | 36 => some (.bool true)
  | 37 => some (.func (.func 31) #[] #[])
  | 38 => some (.agg #[.int .u64 (W (p) 0), .int .u64 (W (p) 1), .int .u64 (W (p) 2), .int .u64 (W (p) 3)])
  | 39 => some (.int .i64 (cnt p))
  | 40 => some (.func (.func 31) #[] #[])
  | 41 => some (.agg #[.int .u64 (W (p) 0), .int .u64 (W (p) 1), .int .u64 (W (p) 2), .int .u64 (W (p) 3)])
  | 42 => some (.agg #[.int .u64 (W (notB p) 0), .int .u64 (W (notB p) 1), .int .u64 (W (notB p) 2), .int .u64 (W (notB p) 3)])
  | 43 => some (.int .i64 (cnt (notB p)))
  | 44 => some (.int .i64 256)
  | 45 => some (.bool true)
  | 46 => some (.bool true)
  | 47 => some (.bool true)
  | 48 => some (.func (.func 31) #[] #[])
  | 49 => some (.int .u8 lo)
  | 50 => some (.int .u8 hi)
  | 51 => some (.agg #[.int .u64 (W (rngB lo (hi + 1)) 0), .int .u64 (W (rngB lo (hi + 1)) 1), .int .u64 (W (rngB lo (hi + 1)) 2), .int .u64 (W (rngB lo (hi + 1)) 3)])
  | 52 => some (.int .i64 (cnt (rngB lo (hi + 1))))
  | 53 => some (.int .u8 hi)
  | 54 => some (.int .i64 hi)
  | 55 => some (.int .u8 lo)
  | 56 => some (.int .i64 lo)
  | 57 => some (.int .i64 (hi - lo))
  | 58 => some (.int .i64 (hi - lo + 1))
  | 59 => some (.int .i64 (if hi - lo + 1 < 0 then 0 else hi - lo + 1))
  | 60 => some (.bool true)
  | 61 => some (.bool true)
  | _ => none
set_option linter.unusedVariables false in
def SizGP (w : World) (p q : Nat → Bool) (lo hi : Int) (t : Nat) : Option (Value → World → Prop) :=
  match t with
  | 17 => some (Sl [p, q])
  | 23 => some (Sl [p, q])
  | _ => none
def SizG (w : World) (p q : Nat → Bool) (lo hi : Int) (t : Nat) (v : Value) (u : World) : Prop := (∀ z9, SizGV w p q lo hi t = some z9 → v = z9) ∧ ∀ R, SizGP w p q lo hi t = some R → R v u

set_option maxRecDepth 100000 in
set_option maxHeartbeats 8000000 in
theorem sizes_any (p q : Nat → Bool) (lo hi : Int) (w : World) (l0 : 0 ≤ lo) (l1 : lo ≤ 255) (h0 : 0 ≤ hi) (h1 : hi ≤ 255) :
    Calls Try.prog 8 #[.agg #[.int .u64 (W (p) 0), .int .u64 (W (p) 1), .int .u64 (W (p) 2), .int .u64 (W (p) 3)], .agg #[.int .u64 (W (q) 0), .int .u64 (W (q) 1), .int .u64 (W (q) 2), .int .u64 (W (q) 3)], .int .u8 lo, .int .u8 hi] w fun e w' => e = .returned (.bool true) ∧ Below w.heap.size w w' := by
  go_enter Try.func8, Try.ntmps8
  go_wp2_with fail
  have R0 := (Row4.new w p).alloc (.cells (#[.int .u64 (W (q) 0), .int .u64 (W (q) 1), .int .u64 (W (q) 2), .int .u64 (W (q) 3)]) 27)
  have R1 := Row4.new (w.alloc (.cells (#[.int .u64 (W (p) 0), .int .u64 (W (p) 1), .int .u64 (W (p) 2), .int .u64 (W (p) 3)]) 27)) q
  rw [World.size_alloc] at R1
  refine (shown_any _).mono ?_
  rintro e w1 ⟨rfl, hb1⟩
  have HS : SizS w p q w1 := ⟨⟨R0.below hb1 R0.lt, R1.below hb1 R1.lt⟩, bel1 (bel1 hb1)⟩
  clear R0 R1 hb1
  go_wp2
  refine wp_region_slots (SizS w p q) (SizG w p q lo hi) (by kernel_rfl) (by kernel_rfl) (by kernel_rfl) ?_ ⟨HS.box.drew, HS.bel.drew⟩ [2, 3, 4, 5, 9, 10] (by kernel_rfl) ?_ ?_ ?_
  · intro t v u u' h hb
    refine ⟨h.1, fun R hR => ?_⟩
    have hh := h.2 R hR
    unfold SizGP at hR
    split at hR
    · cases hR; exact hh.below hb
    · cases hR; exact hh.below hb
    · cases hR
  · intro u _
    refine ⟨⟨_, rfl, ?_⟩, ⟨_, rfl, ?_⟩, ⟨_, rfl, ?_⟩, ⟨_, rfl, ?_⟩, ⟨_, rfl, ?_⟩, ⟨_, rfl, ?_⟩, trivial⟩ <;> exact ⟨fun _ h => Option.some.inj h, fun _ h => no_some h⟩
  · refine ⟨?_, ?_, ?_, ?_, ?_, ?_, ?_, ?_, ?_, ?_, ?_, ?_, ?_, ?_, ?_, ?_, ?_, ?_, ?_, ?_, ?_, ?_, ?_, ?_, ?_, ?_, ?_, ?_, ?_, ?_, ?_, ?_, ?_, ?_, ?_, ?_, ?_, ?_, ?_, ?_, ?_, ?_, ?_, ?_, ?_, ?_, ?_, ?_, ?_, ?_, ?_, trivial⟩
    · intro a u hS hr K hK
      obtain ⟨⟨vl0, e0, g0⟩, -⟩ := hr
      obtain rfl := g0.1 _ rfl
      clear g0
      rw [if_pos (want_none rfl)]
      unfold Oper.wp
      go_simp
      exact hK _ _ ⟨fun _ h => Option.some.inj h, fun _ h => no_some h⟩ hS (Below.refl _ _)
    · intro a u hS hr K hK
      obtain ⟨⟨vl0, e0, g0⟩, -⟩ := hr
      obtain rfl := g0.1 _ rfl
      clear g0
      rw [if_pos (want_none rfl)]
      unfold Oper.wp
      go_simp
      exact hK _ _ ⟨fun _ h => Option.some.inj h, fun _ h => no_some h⟩ hS (Below.refl _ _)
    · intro a u hS hr K hK
      obtain ⟨⟨vl0, e0, g0⟩, ⟨vl1, e1, g1⟩, -⟩ := hr
      obtain rfl := g0.1 _ rfl
      clear g0
      obtain rfl := g1.1 _ rfl
      clear g1
      rw [if_pos (want_some rfl rfl rfl e1)]
      unfold Oper.wp
      go_simp
      exact hK _ _ ⟨fun _ h => Option.some.inj h, fun _ h => no_some h⟩ hS (Below.refl _ _)
    · intro a u hS hr K hK
      obtain ⟨⟨vl0, e0, g0⟩, ⟨vl1, e1, g1⟩, -⟩ := hr
      obtain rfl := g0.1 _ rfl
      clear g0
      obtain rfl := g1.1 _ rfl
      clear g1
      rw [if_pos (want_some rfl rfl rfl e1)]
      obtain ⟨⟨r0, r1, r2, r3⟩, s0, s1, s2, s3⟩ := hS.box.cells
      unfold Oper.wp
      go_simp
      exact hK _ _ ⟨fun _ h => Option.some.inj h, fun _ h => no_some h⟩ hS (Below.refl _ _)
    · intro a u hS hr K hK
      obtain ⟨⟨vl0, e0, g0⟩, ⟨vl1, e1, g1⟩, -⟩ := hr
      obtain rfl := g0.1 _ rfl
      clear g0
      obtain rfl := g1.1 _ rfl
      clear g1
      rw [if_pos (want_some rfl rfl rfl e1)]
      obtain ⟨⟨r0, r1, r2, r3⟩, s0, s1, s2, s3⟩ := hS.box.cells
      unfold Oper.wp
      go_simp
      exact hK _ _ ⟨fun _ h => Option.some.inj h, fun _ h => no_some h⟩ hS (Below.refl _ _)
    · intro a u hS hr K hK
      obtain ⟨⟨vl0, e0, g0⟩, ⟨vl1, e1, g1⟩, ⟨vl2, e2, g2⟩, -⟩ := hr
      obtain rfl := g0.1 _ rfl
      clear g0
      obtain rfl := g1.1 _ rfl
      clear g1
      obtain rfl := g2.1 _ rfl
      clear g2
      rw [if_pos (want_some rfl rfl rfl e2)]
      unfold Oper.wp
      go_simp
      exact hK _ _ ⟨fun _ h => no_some h, fun _ h => spec_ok h (Sl.two p q _)⟩ (hS.below ((Below.refl _ _).alloc (Nat.le_refl _) _)) ((Below.refl _ _).alloc (Nat.le_refl _) _)
    · intro a u hS hr K hK
      obtain ⟨⟨vl0, e0, g0⟩, ⟨vl1, e1, g1⟩, -⟩ := hr
      replace g0 := g0.2 _ rfl
      obtain rfl := g1.1 _ rfl
      clear g1
      rw [if_pos (want_some rfl rfl rfl e1)]
      unfold Oper.wp
      go_simp
      refine (or_sl g0).mono ?_
      rintro e u1 ⟨rfl, hb⟩
      exact hK _ _ ⟨fun _ h => Option.some.inj h, fun _ h => no_some h⟩ (hS.below hb) hb
    · intro a u hS hr K hK
      obtain ⟨⟨vl0, e0, g0⟩, ⟨vl1, e1, g1⟩, ⟨vl2, e2, g2⟩, -⟩ := hr
      obtain rfl := g0.1 _ rfl
      clear g0
      obtain rfl := g1.1 _ rfl
      clear g1
      obtain rfl := g2.1 _ rfl
      clear g2
      rw [if_pos (want_some rfl rfl rfl e2)]
      unfold Oper.wp
      go_simp
      refine (n_any _ _).mono ?_
      rintro e u1 ⟨rfl, hb⟩
      exact hK _ _ ⟨fun _ h => Option.some.inj h, fun _ h => no_some h⟩ (hS.below hb) hb
    · intro a u hS hr K hK
      obtain ⟨⟨vl0, e0, g0⟩, ⟨vl1, e1, g1⟩, -⟩ := hr
      obtain rfl := g0.1 _ rfl
      clear g0
      obtain rfl := g1.1 _ rfl
      clear g1
      rw [if_pos (want_some rfl rfl rfl e1)]
      unfold Oper.wp
      go_simp
      exact hK _ _ ⟨fun _ h => Option.some.inj h, fun _ h => no_some h⟩ hS (Below.refl _ _)
    · intro a u hS hr K hK
      obtain ⟨⟨vl0, e0, g0⟩, ⟨vl1, e1, g1⟩, -⟩ := hr
      obtain rfl := g0.1 _ rfl
      clear g0
      obtain rfl := g1.1 _ rfl
      clear g1
      rw [if_pos (want_some rfl rfl rfl e1)]
      obtain ⟨⟨r0, r1, r2, r3⟩, s0, s1, s2, s3⟩ := hS.box.cells
      unfold Oper.wp
      go_simp
      exact hK _ _ ⟨fun _ h => Option.some.inj h, fun _ h => no_some h⟩ hS (Below.refl _ _)
    · intro a u hS hr K hK
      obtain ⟨⟨vl0, e0, g0⟩, ⟨vl1, e1, g1⟩, -⟩ := hr
      obtain rfl := g0.1 _ rfl
      clear g0
      obtain rfl := g1.1 _ rfl
      clear g1
      rw [if_pos (want_some rfl rfl rfl e1)]
      obtain ⟨⟨r0, r1, r2, r3⟩, s0, s1, s2, s3⟩ := hS.box.cells
      unfold Oper.wp
      go_simp
      exact hK _ _ ⟨fun _ h => Option.some.inj h, fun _ h => no_some h⟩ hS (Below.refl _ _)
    · intro a u hS hr K hK
      obtain ⟨⟨vl0, e0, g0⟩, ⟨vl1, e1, g1⟩, ⟨vl2, e2, g2⟩, -⟩ := hr
      obtain rfl := g0.1 _ rfl
      clear g0
      obtain rfl := g1.1 _ rfl
      clear g1
      obtain rfl := g2.1 _ rfl
      clear g2
      rw [if_pos (want_some rfl rfl rfl e2)]
      unfold Oper.wp
      go_simp
      exact hK _ _ ⟨fun _ h => no_some h, fun _ h => spec_ok h (Sl.two p q _)⟩ (hS.below ((Below.refl _ _).alloc (Nat.le_refl _) _)) ((Below.refl _ _).alloc (Nat.le_refl _) _)
    · intro a u hS hr K hK
      obtain ⟨⟨vl0, e0, g0⟩, ⟨vl1, e1, g1⟩, -⟩ := hr
      replace g0 := g0.2 _ rfl
      obtain rfl := g1.1 _ rfl
      clear g1
      rw [if_pos (want_some rfl rfl rfl e1)]
      unfold Oper.wp
      go_simp
      refine (and_sl g0).mono ?_
      rintro e u1 ⟨rfl, hb⟩
      exact hK _ _ ⟨fun _ h => Option.some.inj h, fun _ h => no_some h⟩ (hS.below hb) hb
    · intro a u hS hr K hK
      obtain ⟨⟨vl0, e0, g0⟩, ⟨vl1, e1, g1⟩, ⟨vl2, e2, g2⟩, -⟩ := hr
      obtain rfl := g0.1 _ rfl
      clear g0
      obtain rfl := g1.1 _ rfl
      clear g1
      obtain rfl := g2.1 _ rfl
      clear g2
      rw [if_pos (want_some rfl rfl rfl e2)]
      unfold Oper.wp
      go_simp
      refine (n_any _ _).mono ?_
      rintro e u1 ⟨rfl, hb⟩
      exact hK _ _ ⟨fun _ h => Option.some.inj h, fun _ h => no_some h⟩ (hS.below hb) hb
    · intro a u hS hr K hK
      obtain ⟨⟨vl0, e0, g0⟩, ⟨vl1, e1, g1⟩, ⟨vl2, e2, g2⟩, -⟩ := hr
      obtain rfl := g0.1 _ rfl
      clear g0
      obtain rfl := g1.1 _ rfl
      clear g1
      obtain rfl := g2.1 _ rfl
      clear g2
      rw [if_pos (want_some rfl rfl rfl e2)]
      have z1 := cnt_le (orB p q)
      have z2 := cnt_le (andB p q)
      have z3 : IntKind.i64.wrap ((cnt (orB p q) : Int) + (cnt (andB p q) : Int)) = (cnt (orB p q) : Int) + (cnt (andB p q) : Int) := IntWalk.i64_in _ (by omega)
      unfold Oper.wp
      go_simp
      exact hK _ _ ⟨fun _ h => Option.some.inj h, fun _ h => no_some h⟩ hS (Below.refl _ _)
    · intro a u hS hr K hK
      obtain ⟨⟨vl0, e0, g0⟩, ⟨vl1, e1, g1⟩, -⟩ := hr
      obtain rfl := g0.1 _ rfl
      clear g0
      obtain rfl := g1.1 _ rfl
      clear g1
      rw [if_pos (want_some rfl rfl rfl e1)]
      unfold Oper.wp
      go_simp
      exact hK _ _ ⟨fun _ h => Option.some.inj h, fun _ h => no_some h⟩ hS (Below.refl _ _)
    · intro a u hS hr K hK
      obtain ⟨⟨vl0, e0, g0⟩, ⟨vl1, e1, g1⟩, -⟩ := hr
      obtain rfl := g0.1 _ rfl
      clear g0
      obtain rfl := g1.1 _ rfl
      clear g1
      rw [if_pos (want_some rfl rfl rfl e1)]
      obtain ⟨⟨r0, r1, r2, r3⟩, s0, s1, s2, s3⟩ := hS.box.cells
      unfold Oper.wp
      go_simp
      exact hK _ _ ⟨fun _ h => Option.some.inj h, fun _ h => no_some h⟩ hS (Below.refl _ _)
    · intro a u hS hr K hK
      obtain ⟨⟨vl0, e0, g0⟩, ⟨vl1, e1, g1⟩, ⟨vl2, e2, g2⟩, -⟩ := hr
      obtain rfl := g0.1 _ rfl
      clear g0
      obtain rfl := g1.1 _ rfl
      clear g1
      obtain rfl := g2.1 _ rfl
      clear g2
      rw [if_pos (want_some rfl rfl rfl e2)]
      unfold Oper.wp
      go_simp
      refine (n_any _ _).mono ?_
      rintro e u1 ⟨rfl, hb⟩
      exact hK _ _ ⟨fun _ h => Option.some.inj h, fun _ h => no_some h⟩ (hS.below hb) hb
    · intro a u hS hr K hK
      obtain ⟨⟨vl0, e0, g0⟩, ⟨vl1, e1, g1⟩, -⟩ := hr
      obtain rfl := g0.1 _ rfl
      clear g0
      obtain rfl := g1.1 _ rfl
      clear g1
      rw [if_pos (want_some rfl rfl rfl e1)]
      unfold Oper.wp
      go_simp
      exact hK _ _ ⟨fun _ h => Option.some.inj h, fun _ h => no_some h⟩ hS (Below.refl _ _)
    · intro a u hS hr K hK
      obtain ⟨⟨vl0, e0, g0⟩, ⟨vl1, e1, g1⟩, -⟩ := hr
      obtain rfl := g0.1 _ rfl
      clear g0
      obtain rfl := g1.1 _ rfl
      clear g1
      rw [if_pos (want_some rfl rfl rfl e1)]
      obtain ⟨⟨r0, r1, r2, r3⟩, s0, s1, s2, s3⟩ := hS.box.cells
      unfold Oper.wp
      go_simp
      exact hK _ _ ⟨fun _ h => Option.some.inj h, fun _ h => no_some h⟩ hS (Below.refl _ _)
    · intro a u hS hr K hK
      obtain ⟨⟨vl0, e0, g0⟩, ⟨vl1, e1, g1⟩, ⟨vl2, e2, g2⟩, -⟩ := hr
      obtain rfl := g0.1 _ rfl
      clear g0
      obtain rfl := g1.1 _ rfl
      clear g1
      obtain rfl := g2.1 _ rfl
      clear g2
      rw [if_pos (want_some rfl rfl rfl e2)]
      unfold Oper.wp
      go_simp
      refine (n_any _ _).mono ?_
      rintro e u1 ⟨rfl, hb⟩
      exact hK _ _ ⟨fun _ h => Option.some.inj h, fun _ h => no_some h⟩ (hS.below hb) hb
    · intro a u hS hr K hK
      obtain ⟨⟨vl0, e0, g0⟩, ⟨vl1, e1, g1⟩, ⟨vl2, e2, g2⟩, -⟩ := hr
      obtain rfl := g0.1 _ rfl
      clear g0
      obtain rfl := g1.1 _ rfl
      clear g1
      obtain rfl := g2.1 _ rfl
      clear g2
      rw [if_pos (want_some rfl rfl rfl e2)]
      have z1 := cnt_le p
      have z2 := cnt_le q
      have z3 : IntKind.i64.wrap ((cnt p : Int) + (cnt q : Int)) = (cnt p : Int) + (cnt q : Int) := IntWalk.i64_in _ (by omega)
      unfold Oper.wp
      go_simp
      exact hK _ _ ⟨fun _ h => Option.some.inj h, fun _ h => no_some h⟩ hS (Below.refl _ _)
    · intro a u hS hr K hK
      obtain ⟨⟨vl0, e0, g0⟩, ⟨vl1, e1, g1⟩, ⟨vl2, e2, g2⟩, -⟩ := hr
      obtain rfl := g0.1 _ rfl
      clear g0
      obtain rfl := g1.1 _ rfl
      clear g1
      obtain rfl := g2.1 _ rfl
      clear g2
      rw [if_pos (want_some rfl rfl rfl e2)]
      have z1 : (((cnt (orB p q) : Int) + (cnt (andB p q) : Int)) == ((cnt p : Int) + (cnt q : Int))) = true := by rw [beq_iff_eq]; have := cnt_or p q; omega
      unfold Oper.wp
      go_simp
      exact hK _ _ ⟨fun _ h => Option.some.inj h, fun _ h => no_some h⟩ hS (Below.refl _ _)
    · intro a u hS hr K hK
      obtain ⟨⟨vl0, e0, g0⟩, ⟨vl1, e1, g1⟩, -⟩ := hr
      obtain rfl := g0.1 _ rfl
      clear g0
      obtain rfl := g1.1 _ rfl
      clear g1
      rw [if_pos (want_none rfl)]
      unfold Oper.wp
      go_simp
      exact hK _ _ ⟨fun _ h => Option.some.inj h, fun _ h => no_some h⟩ hS (Below.refl _ _)
    · intro a u hS hr K hK
      obtain ⟨⟨vl0, e0, g0⟩, -⟩ := hr
      obtain rfl := g0.1 _ rfl
      clear g0
      rw [if_pos (want_none rfl)]
      unfold Oper.wp
      go_simp
      exact hK _ _ ⟨fun _ h => Option.some.inj h, fun _ h => no_some h⟩ hS (Below.refl _ _)
    · intro a u hS hr K hK
      obtain ⟨⟨vl0, e0, g0⟩, ⟨vl1, e1, g1⟩, -⟩ := hr
      obtain rfl := g0.1 _ rfl
      clear g0
      obtain rfl := g1.1 _ rfl
      clear g1
      rw [if_pos (want_some rfl rfl rfl e1)]
      unfold Oper.wp
      go_simp
      exact hK _ _ ⟨fun _ h => Option.some.inj h, fun _ h => no_some h⟩ hS (Below.refl _ _)
    · intro a u hS hr K hK
      obtain ⟨⟨vl0, e0, g0⟩, ⟨vl1, e1, g1⟩, -⟩ := hr
      obtain rfl := g0.1 _ rfl
      clear g0
      obtain rfl := g1.1 _ rfl
      clear g1
      rw [if_pos (want_some rfl rfl rfl e1)]
      obtain ⟨⟨r0, r1, r2, r3⟩, s0, s1, s2, s3⟩ := hS.box.cells
      unfold Oper.wp
      go_simp
      exact hK _ _ ⟨fun _ h => Option.some.inj h, fun _ h => no_some h⟩ hS (Below.refl _ _)
    · intro a u hS hr K hK
      obtain ⟨⟨vl0, e0, g0⟩, ⟨vl1, e1, g1⟩, ⟨vl2, e2, g2⟩, -⟩ := hr
      obtain rfl := g0.1 _ rfl
      clear g0
      obtain rfl := g1.1 _ rfl
      clear g1
      obtain rfl := g2.1 _ rfl
      clear g2
      rw [if_pos (want_some rfl rfl rfl e2)]
      unfold Oper.wp
      go_simp
      refine (n_any _ _).mono ?_
      rintro e u1 ⟨rfl, hb⟩
      exact hK _ _ ⟨fun _ h => Option.some.inj h, fun _ h => no_some h⟩ (hS.below hb) hb
    · intro a u hS hr K hK
      obtain ⟨⟨vl0, e0, g0⟩, ⟨vl1, e1, g1⟩, -⟩ := hr
      obtain rfl := g0.1 _ rfl
      clear g0
      obtain rfl := g1.1 _ rfl
      clear g1
      rw [if_pos (want_some rfl rfl rfl e1)]
      unfold Oper.wp
      go_simp
      exact hK _ _ ⟨fun _ h => Option.some.inj h, fun _ h => no_some h⟩ hS (Below.refl _ _)
    · intro a u hS hr K hK
      obtain ⟨⟨vl0, e0, g0⟩, ⟨vl1, e1, g1⟩, -⟩ := hr
      obtain rfl := g0.1 _ rfl
      clear g0
      obtain rfl := g1.1 _ rfl
      clear g1
      rw [if_pos (want_some rfl rfl rfl e1)]
      obtain ⟨⟨r0, r1, r2, r3⟩, s0, s1, s2, s3⟩ := hS.box.cells
      unfold Oper.wp
      go_simp
      exact hK _ _ ⟨fun _ h => Option.some.inj h, fun _ h => no_some h⟩ hS (Below.refl _ _)
    · intro a u hS hr K hK
      obtain ⟨⟨vl0, e0, g0⟩, ⟨vl1, e1, g1⟩, -⟩ := hr
      obtain rfl := g0.1 _ rfl
      clear g0
      obtain rfl := g1.1 _ rfl
      clear g1
      rw [if_pos (want_some rfl rfl rfl e1)]
      unfold Oper.wp
      go_simp
      refine (not_any p _).mono ?_
      rintro e u1 ⟨rfl, hb⟩
      exact hK _ _ ⟨fun _ h => Option.some.inj h, fun _ h => no_some h⟩ (hS.below hb) hb
    · intro a u hS hr K hK
      obtain ⟨⟨vl0, e0, g0⟩, ⟨vl1, e1, g1⟩, ⟨vl2, e2, g2⟩, -⟩ := hr
      obtain rfl := g0.1 _ rfl
      clear g0
      obtain rfl := g1.1 _ rfl
      clear g1
      obtain rfl := g2.1 _ rfl
      clear g2
      rw [if_pos (want_some rfl rfl rfl e2)]
      unfold Oper.wp
      go_simp
      refine (n_any _ _).mono ?_
      rintro e u1 ⟨rfl, hb⟩
      exact hK _ _ ⟨fun _ h => Option.some.inj h, fun _ h => no_some h⟩ (hS.below hb) hb
    · intro a u hS hr K hK
      obtain ⟨⟨vl0, e0, g0⟩, ⟨vl1, e1, g1⟩, ⟨vl2, e2, g2⟩, -⟩ := hr
      obtain rfl := g0.1 _ rfl
      clear g0
      obtain rfl := g1.1 _ rfl
      clear g1
      obtain rfl := g2.1 _ rfl
      clear g2
      rw [if_pos (want_some rfl rfl rfl e2)]
      have z1 := cnt_not p
      have z2 : (cnt p : Int) + (cnt (notB p) : Int) = 256 := by omega
      have z3 : IntKind.i64.wrap ((cnt p : Int) + (cnt (notB p) : Int)) = 256 := by rw [z2]; rfl
      unfold Oper.wp
      go_simp
      exact hK _ _ ⟨fun _ h => Option.some.inj h, fun _ h => no_some h⟩ hS (Below.refl _ _)
    · intro a u hS hr K hK
      obtain ⟨⟨vl0, e0, g0⟩, ⟨vl1, e1, g1⟩, -⟩ := hr
      obtain rfl := g0.1 _ rfl
      clear g0
      obtain rfl := g1.1 _ rfl
      clear g1
      rw [if_pos (want_some rfl rfl rfl e1)]
      unfold Oper.wp
      go_simp
      exact hK _ _ ⟨fun _ h => Option.some.inj h, fun _ h => no_some h⟩ hS (Below.refl _ _)
    · intro a u hS hr K hK
      obtain ⟨⟨vl0, e0, g0⟩, ⟨vl1, e1, g1⟩, -⟩ := hr
      obtain rfl := g0.1 _ rfl
      clear g0
      obtain rfl := g1.1 _ rfl
      clear g1
      rw [if_pos (want_none rfl)]
      unfold Oper.wp
      go_simp
      exact hK _ _ ⟨fun _ h => Option.some.inj h, fun _ h => no_some h⟩ hS (Below.refl _ _)
    · intro a u hS hr K hK
      obtain ⟨⟨vl0, e0, g0⟩, -⟩ := hr
      obtain rfl := g0.1 _ rfl
      clear g0
      rw [if_pos (want_none rfl)]
      unfold Oper.wp
      go_simp
      exact hK _ _ ⟨fun _ h => Option.some.inj h, fun _ h => no_some h⟩ hS (Below.refl _ _)
    · intro a u hS hr K hK
      obtain ⟨⟨vl0, e0, g0⟩, ⟨vl1, e1, g1⟩, -⟩ := hr
      obtain rfl := g0.1 _ rfl
      clear g0
      obtain rfl := g1.1 _ rfl
      clear g1
      rw [if_pos (want_some rfl rfl rfl e1)]
      unfold Oper.wp
      go_simp
      exact hK _ _ ⟨fun _ h => Option.some.inj h, fun _ h => no_some h⟩ hS (Below.refl _ _)
    · intro a u hS hr K hK
      obtain ⟨⟨vl0, e0, g0⟩, ⟨vl1, e1, g1⟩, -⟩ := hr
      obtain rfl := g0.1 _ rfl
      clear g0
      obtain rfl := g1.1 _ rfl
      clear g1
      rw [if_pos (want_some rfl rfl rfl e1)]
      unfold Oper.wp
      go_simp
      exact hK _ _ ⟨fun _ h => Option.some.inj h, fun _ h => no_some h⟩ hS (Below.refl _ _)
    · intro a u hS hr K hK
      obtain ⟨⟨vl0, e0, g0⟩, ⟨vl1, e1, g1⟩, -⟩ := hr
      obtain rfl := g0.1 _ rfl
      clear g0
      obtain rfl := g1.1 _ rfl
      clear g1
      rw [if_pos (want_some rfl rfl rfl e1)]
      unfold Oper.wp
      go_simp
      exact hK _ _ ⟨fun _ h => Option.some.inj h, fun _ h => no_some h⟩ hS (Below.refl _ _)
    · intro a u hS hr K hK
      obtain ⟨⟨vl0, e0, g0⟩, ⟨vl1, e1, g1⟩, ⟨vl2, e2, g2⟩, -⟩ := hr
      obtain rfl := g0.1 _ rfl
      clear g0
      obtain rfl := g1.1 _ rfl
      clear g1
      obtain rfl := g2.1 _ rfl
      clear g2
      rw [if_pos (want_some rfl rfl rfl e2)]
      unfold Oper.wp
      go_simp
      refine (range_any lo hi _ l0 l1 h0 h1).mono ?_
      rintro e u1 ⟨rfl, hb⟩
      exact hK _ _ ⟨fun _ h => Option.some.inj h, fun _ h => no_some h⟩ (hS.below hb) hb
    · intro a u hS hr K hK
      obtain ⟨⟨vl0, e0, g0⟩, ⟨vl1, e1, g1⟩, ⟨vl2, e2, g2⟩, -⟩ := hr
      obtain rfl := g0.1 _ rfl
      clear g0
      obtain rfl := g1.1 _ rfl
      clear g1
      obtain rfl := g2.1 _ rfl
      clear g2
      rw [if_pos (want_some rfl rfl rfl e2)]
      unfold Oper.wp
      go_simp
      refine (n_any _ _).mono ?_
      rintro e u1 ⟨rfl, hb⟩
      exact hK _ _ ⟨fun _ h => Option.some.inj h, fun _ h => no_some h⟩ (hS.below hb) hb
    · intro a u hS hr K hK
      obtain ⟨⟨vl0, e0, g0⟩, ⟨vl1, e1, g1⟩, -⟩ := hr
      obtain rfl := g0.1 _ rfl
      clear g0
      obtain rfl := g1.1 _ rfl
      clear g1
      rw [if_pos (want_some rfl rfl rfl e1)]
      unfold Oper.wp
      go_simp
      exact hK _ _ ⟨fun _ h => Option.some.inj h, fun _ h => no_some h⟩ hS (Below.refl _ _)
    · intro a u hS hr K hK
      obtain ⟨⟨vl0, e0, g0⟩, ⟨vl1, e1, g1⟩, -⟩ := hr
      obtain rfl := g0.1 _ rfl
      clear g0
      obtain rfl := g1.1 _ rfl
      clear g1
      rw [if_pos (want_some rfl rfl rfl e1)]
      have z3 : IntKind.i64.wrap hi = hi := IntWalk.i64_in _ (by omega)
      unfold Oper.wp
      go_simp
      exact hK _ _ ⟨fun _ h => Option.some.inj h, fun _ h => no_some h⟩ hS (Below.refl _ _)
    · intro a u hS hr K hK
      obtain ⟨⟨vl0, e0, g0⟩, ⟨vl1, e1, g1⟩, -⟩ := hr
      obtain rfl := g0.1 _ rfl
      clear g0
      obtain rfl := g1.1 _ rfl
      clear g1
      rw [if_pos (want_some rfl rfl rfl e1)]
      unfold Oper.wp
      go_simp
      exact hK _ _ ⟨fun _ h => Option.some.inj h, fun _ h => no_some h⟩ hS (Below.refl _ _)
    · intro a u hS hr K hK
      obtain ⟨⟨vl0, e0, g0⟩, ⟨vl1, e1, g1⟩, -⟩ := hr
      obtain rfl := g0.1 _ rfl
      clear g0
      obtain rfl := g1.1 _ rfl
      clear g1
      rw [if_pos (want_some rfl rfl rfl e1)]
      have z3 : IntKind.i64.wrap lo = lo := IntWalk.i64_in _ (by omega)
      unfold Oper.wp
      go_simp
      exact hK _ _ ⟨fun _ h => Option.some.inj h, fun _ h => no_some h⟩ hS (Below.refl _ _)
    · intro a u hS hr K hK
      obtain ⟨⟨vl0, e0, g0⟩, ⟨vl1, e1, g1⟩, ⟨vl2, e2, g2⟩, -⟩ := hr
      obtain rfl := g0.1 _ rfl
      clear g0
      obtain rfl := g1.1 _ rfl
      clear g1
      obtain rfl := g2.1 _ rfl
      clear g2
      rw [if_pos (want_some rfl rfl rfl e2)]
      have z3 : IntKind.i64.wrap (hi - lo) = hi - lo := IntWalk.i64_in _ (by omega)
      unfold Oper.wp
      go_simp
      exact hK _ _ ⟨fun _ h => Option.some.inj h, fun _ h => no_some h⟩ hS (Below.refl _ _)
    · intro a u hS hr K hK
      obtain ⟨⟨vl0, e0, g0⟩, ⟨vl1, e1, g1⟩, -⟩ := hr
      obtain rfl := g0.1 _ rfl
      clear g0
      obtain rfl := g1.1 _ rfl
      clear g1
      rw [if_pos (want_some rfl rfl rfl e1)]
      have z3 : IntKind.i64.wrap (hi - lo + 1) = hi - lo + 1 := IntWalk.i64_in _ (by omega)
      unfold Oper.wp
      go_simp
      exact hK _ _ ⟨fun _ h => Option.some.inj h, fun _ h => no_some h⟩ hS (Below.refl _ _)
    · intro a u hS hr K hK
      obtain ⟨⟨vl0, e0, g0⟩, ⟨vl1, e1, g1⟩, -⟩ := hr
      obtain rfl := g0.1 _ rfl
      clear g0
      obtain rfl := g1.1 _ rfl
      clear g1
      rw [if_pos (want_some rfl rfl rfl e1)]
      unfold Oper.wp
      go_simp
      exact hK _ _ ⟨fun _ h => Option.some.inj h, fun _ h => no_some h⟩ hS (Below.refl _ _)
    · intro a u hS hr K hK
      obtain ⟨⟨vl0, e0, g0⟩, ⟨vl1, e1, g1⟩, ⟨vl2, e2, g2⟩, -⟩ := hr
      obtain rfl := g0.1 _ rfl
      clear g0
      obtain rfl := g1.1 _ rfl
      clear g1
      obtain rfl := g2.1 _ rfl
      clear g2
      rw [if_pos (want_some rfl rfl rfl e2)]
      have z1 : ((cnt (rngB lo (hi + 1)) : Int) == if hi - lo + 1 < 0 then 0 else hi - lo + 1) = true := by rw [beq_iff_eq]; exact cnt_rng lo hi l0 h1
      unfold Oper.wp
      go_simp
      exact hK _ _ ⟨fun _ h => Option.some.inj h, fun _ h => no_some h⟩ hS (Below.refl _ _)
    · intro a u hS hr K hK
      obtain ⟨⟨vl0, e0, g0⟩, ⟨vl1, e1, g1⟩, -⟩ := hr
      obtain rfl := g0.1 _ rfl
      clear g0
      obtain rfl := g1.1 _ rfl
      clear g1
      rw [if_pos (want_none rfl)]
      unfold Oper.wp
      go_simp
      exact hK _ _ ⟨fun _ h => Option.some.inj h, fun _ h => no_some h⟩ hS (Below.refl _ _)
    · intro a u hS hr K hK
      obtain ⟨⟨vl0, e0, g0⟩, -⟩ := hr
      obtain rfl := g0.1 _ rfl
      clear g0
      rw [if_pos (want_none rfl)]
      unfold Oper.wp
      go_simp
      exact hK _ _ ⟨fun _ h => Option.some.inj h, fun _ h => no_some h⟩ hS (Below.refl _ _)
  · intro a u hS _ hd _ hf
    obtain ⟨v, hv, hg⟩ := hf 50 _ 8 rfl rfl
    obtain rfl := hg.1 _ rfl
    clear hf
    go_wp2
    exact ret_slot Try.results8 hv hd ⟨rfl, hS.bel⟩

end Go.Proofs.Ytbheccbbkolieaa
