/- The law SplitReads, by what the calls of split tell. -/
import Derived.Test.YtlfbjnmehdifeaaXj
import Derived.Test.YtlfbjnmehdifeaaMb
namespace Go.Proofs.Ytlfbjnmehdifeaa
open Go.RowKit

theorem frst_bytes (f : Nat → Int) (m : Int) : ∀ y ∈ frstM f m, 0 ≤ y ∧ y ≤ 255 := by
  unfold frstM
  split
  · intro y hy
    obtain ⟨c, _, rfl⟩ := List.mem_map.1 hy
    exact least_byte f c
  · intro y hy; cases hy
theorem rfirst_b (f : Nat → Int) (m : Int) (w : World) (hf : ∀ k, k < 256 → 0 ≤ f k ∧ f k ≤ 255) :
    Calls Try.prog 17 #[.agg (spC f m)] w fun e w' => ∃ A c, e = .returned (.slice A (frstM f m).length c) ∧ Bts w' w'.heap.size A (frstM f m) ∧ Below w.heap.size w w' :=
  (rfirst_any f m w hf).mono fun e w' ⟨v, h1, h2, h3⟩ => by
    obtain ⟨A, c, h4, h5⟩ := Bts.of_own h2 (frst_bytes f m)
    exact ⟨A, c, by rw [h1, h4], h5, h3⟩

structure RdS (w : World) (gs : Nat) (f : Nat → Int) (m : Int) (v : World) : Prop where
  box : RowS v gs f m
  bel : Below w.heap.size w v
theorem RdS.below {w : World} {gs : Nat} {f : Nat → Int} {m : Int} {v v' : World} (h : RdS w gs f m v) (hb : Below v.heap.size v v') : RdS w gs f m v' := ⟨h.box.below hb h.box.lt, h.bel.trans (hb.mono h.bel.size)⟩

def RdGV (gs : Nat) (f : Nat → Int) (m c : Int) (t : Nat) : Option Value :=
  match t with
  | 1 => some (.int .i64 c)
  | 2 => some (.pointer (some ⟨gs, 0, none⟩))
  | 4 => some (.bool true)
  | 5 => some (.bool true)
  | 6 => some (.bool true)
  | 7 => some (.agg (spC f m))
  | 8 => some (.int .i64 c)
  | 9 => some (.agg #[.int .u64 (W (clsB f c) 0), .int .u64 (W (clsB f c) 1), .int .u64 (W (clsB f c) 2), .int .u64 (W (clsB f c) 3)])
  | 10 => some (.agg (spC f m))
  | 11 => some (.int .i64 c)
  | 12 => some (.agg #[.int .u64 (W (clsB f c) 0), .int .u64 (W (clsB f c) 1), .int .u64 (W (clsB f c) 2), .int .u64 (W (clsB f c) 3)])
  | 13 => some (.bool true)
  | 14 => some (.bool true)
  | 15 => some (.bool true)
  | 16 => some (.agg (spC f m))
  | 18 => some (.string (strOfNums (frstM f m)))
  | 19 => some (.agg (spC f m))
  | 21 => some (.string (strOfNums (frstM f m)))
  | 22 => some (.bool true)
  | 23 => some (.bool true)
  | 24 => some (.bool true)
  | 25 => some (.agg (spC f m))
  | 26 => some (.bool (decide (rightK f 256 = some m)))
  | 27 => some (.agg (spC f m))
  | 28 => some (.bool (decide (rightK f 256 = some m)))
  | 29 => some (.bool true)
  | 30 => some (.bool true)
  | _ => none
set_option linter.unusedVariables false in
def RdGP (gs : Nat) (f : Nat → Int) (m c : Int) (t : Nat) : Option (Value → World → Prop) :=
  match t with
  | 17 => some (Byt (frstM f m))
  | 20 => some (Byt (frstM f m))
  | _ => none
def RdG (gs : Nat) (f : Nat → Int) (m c : Int) (t : Nat) (v : Value) (u : World) : Prop := (∀ z9, RdGV gs f m c t = some z9 → v = z9) ∧ ∀ R, RdGP gs f m c t = some R → R v u

set_option maxRecDepth 100000 in
set_option maxHeartbeats 4000000 in
theorem reads2_any (hO : OfC) (hSe : SetC) (hFi : FirstC) (hRi : RightC) (f : Nat → Int) (m c : Int) (w : World) (hf : ∀ k, k < 256 → 0 ≤ f k ∧ f k ≤ 255) :
    Calls Try.prog 4 #[.agg (spC f m), .int .i64 c] w fun e w' => e = .returned (.bool true) ∧ Below w.heap.size w w' := by
  go_enter Try.func4, Try.ntmps4
  go_wp2
  have HS : RdS w w.heap.size f m (w.alloc (.cells (spC f m) 26)) := ⟨RowS.new w f m, (Below.refl _ _).alloc (Nat.le_refl _) _⟩
  refine wp_region_slots (RdS w w.heap.size f m) (RdG w.heap.size f m c) (by kernel_rfl) (by kernel_rfl) (by kernel_rfl) ?_ ⟨HS.box, HS.bel.drew⟩ [1, 2] (by kernel_rfl) ?_ ?_ ?_
  · intro t v u u' h hb
    refine ⟨h.1, fun R hR => ?_⟩
    have hh := h.2 R hR
    unfold RdGP at hR
    split at hR
    · cases hR; exact hh.below hb
    · cases hR; exact hh.below hb
    · cases hR
  · intro u _
    refine ⟨⟨_, rfl, ?_⟩, ⟨_, rfl, ?_⟩, trivial⟩ <;> exact ⟨fun _ h => Option.some.inj h, fun _ h => no_some h⟩
  · refine ⟨?_, ?_, ?_, ?_, ?_, ?_, ?_, ?_, ?_, ?_, ?_, ?_, ?_, ?_, ?_, ?_, ?_, ?_, ?_, ?_, ?_, ?_, ?_, ?_, ?_, ?_, ?_, trivial⟩
    · intro a u hS hr K hK
      rw [if_pos (want_none rfl)]
      unfold Oper.wp
      go_simp
      refine (shown2_any hO _).mono ?_
      rintro e u1 ⟨rfl, hb⟩
      exact hK _ _ ⟨fun _ h => Option.some.inj h, fun _ h => no_some h⟩ (hS.below hb) hb
    · intro a u hS hr K hK
      obtain ⟨⟨vl0, e0, g0⟩, -⟩ := hr
      obtain rfl := g0.1 _ rfl
      clear g0
      rw [if_pos (want_none rfl)]
      unfold Oper.wp
      go_simp
      exact hK _ _ ⟨fun _ h => Option.some.inj h, fun _ h => no_some h⟩ hS (Below.refl _ _)
    · intro a u hS hr K hK
      obtain ⟨⟨vl0, e0, g0⟩, ⟨vl1, e1, g1⟩, -⟩ := hr
      obtain rfl := g0.1 _ rfl
      clear g0
      obtain rfl := g1.1 _ rfl
      clear g1
      rw [if_pos (want_some rfl rfl rfl e1)]
      refine wp_load_row 26 (.tmp 2) rfl _ (eval_at e0) 26 (spC f m) (0, 0) _ hS.box Try.underlying26 rfl (split_info f m) ?_
      exact hK _ _ ⟨fun _ h => Option.some.inj h, fun _ h => no_some h⟩ hS (Below.refl _ _)
    · intro a u hS hr K hK
      obtain ⟨⟨vl0, e0, g0⟩, ⟨vl1, e1, g1⟩, -⟩ := hr
      obtain rfl := g0.1 _ rfl
      clear g0
      obtain rfl := g1.1 _ rfl
      clear g1
      rw [if_pos (want_some rfl rfl rfl e1)]
      unfold Oper.wp
      go_simp
      exact hK _ _ ⟨fun _ h => Option.some.inj h, fun _ h => no_some h⟩ hS (Below.refl _ _)
    · intro a u hS hr K hK
      obtain ⟨⟨vl0, e0, g0⟩, ⟨vl1, e1, g1⟩, ⟨vl2, e2, g2⟩, -⟩ := hr
      obtain rfl := g0.1 _ rfl
      clear g0
      obtain rfl := g1.1 _ rfl
      clear g1
      obtain rfl := g2.1 _ rfl
      clear g2
      rw [if_pos (want_some rfl rfl rfl e2)]
      unfold Oper.wp
      go_simp
      refine (hSe f m c _ hf).mono ?_
      rintro e u1 ⟨rfl, hb⟩
      exact hK _ _ ⟨fun _ h => Option.some.inj h, fun _ h => no_some h⟩ (hS.below hb) hb
    · intro a u hS hr K hK
      obtain ⟨⟨vl0, e0, g0⟩, ⟨vl1, e1, g1⟩, -⟩ := hr
      obtain rfl := g0.1 _ rfl
      clear g0
      obtain rfl := g1.1 _ rfl
      clear g1
      rw [if_pos (want_some rfl rfl rfl e1)]
      refine wp_load_row 26 (.tmp 2) rfl _ (eval_at e0) 26 (spC f m) (0, 0) _ hS.box Try.underlying26 rfl (split_info f m) ?_
      exact hK _ _ ⟨fun _ h => Option.some.inj h, fun _ h => no_some h⟩ hS (Below.refl _ _)
    · intro a u hS hr K hK
      obtain ⟨⟨vl0, e0, g0⟩, ⟨vl1, e1, g1⟩, -⟩ := hr
      obtain rfl := g0.1 _ rfl
      clear g0
      obtain rfl := g1.1 _ rfl
      clear g1
      rw [if_pos (want_some rfl rfl rfl e1)]
      unfold Oper.wp
      go_simp
      exact hK _ _ ⟨fun _ h => Option.some.inj h, fun _ h => no_some h⟩ hS (Below.refl _ _)
    · intro a u hS hr K hK
      obtain ⟨⟨vl0, e0, g0⟩, ⟨vl1, e1, g1⟩, ⟨vl2, e2, g2⟩, -⟩ := hr
      obtain rfl := g0.1 _ rfl
      clear g0
      obtain rfl := g1.1 _ rfl
      clear g1
      obtain rfl := g2.1 _ rfl
      clear g2
      rw [if_pos (want_some rfl rfl rfl e2)]
      unfold Oper.wp
      go_simp
      refine (rset_any f m c _ hf).mono ?_
      rintro e u1 ⟨rfl, hb⟩
      exact hK _ _ ⟨fun _ h => Option.some.inj h, fun _ h => no_some h⟩ (hS.below hb) hb
    · intro a u hS hr K hK
      obtain ⟨⟨vl0, e0, g0⟩, ⟨vl1, e1, g1⟩, ⟨vl2, e2, g2⟩, -⟩ := hr
      obtain rfl := g0.1 _ rfl
      clear g0
      obtain rfl := g1.1 _ rfl
      clear g1
      obtain rfl := g2.1 _ rfl
      clear g2
      rw [if_pos (want_some rfl rfl rfl e2)]
      have z := eql_yes (p := clsB f c) (q := clsB f c) (fun _ _ => rfl)
      have hg := guard27
      unfold Oper.wp
      go_simp
      exact hK _ _ ⟨fun _ h => Option.some.inj h, fun _ h => no_some h⟩ hS (Below.refl _ _)
    · intro a u hS hr K hK
      obtain ⟨⟨vl0, e0, g0⟩, ⟨vl1, e1, g1⟩, -⟩ := hr
      obtain rfl := g0.1 _ rfl
      clear g0
      obtain rfl := g1.1 _ rfl
      clear g1
      rw [if_pos (want_none rfl)]
      unfold Oper.wp
      go_simp
      exact hK _ _ ⟨fun _ h => Option.some.inj h, fun _ h => no_some h⟩ hS (Below.refl _ _)
    · intro a u hS hr K hK
      obtain ⟨⟨vl0, e0, g0⟩, -⟩ := hr
      obtain rfl := g0.1 _ rfl
      clear g0
      rw [if_pos (want_none rfl)]
      unfold Oper.wp
      go_simp
      exact hK _ _ ⟨fun _ h => Option.some.inj h, fun _ h => no_some h⟩ hS (Below.refl _ _)
    · intro a u hS hr K hK
      obtain ⟨⟨vl0, e0, g0⟩, ⟨vl1, e1, g1⟩, -⟩ := hr
      obtain rfl := g0.1 _ rfl
      clear g0
      obtain rfl := g1.1 _ rfl
      clear g1
      rw [if_pos (want_some rfl rfl rfl e1)]
      refine wp_load_row 26 (.tmp 2) rfl _ (eval_at e0) 26 (spC f m) (0, 0) _ hS.box Try.underlying26 rfl (split_info f m) ?_
      exact hK _ _ ⟨fun _ h => Option.some.inj h, fun _ h => no_some h⟩ hS (Below.refl _ _)
    · intro a u hS hr K hK
      obtain ⟨⟨vl0, e0, g0⟩, ⟨vl1, e1, g1⟩, -⟩ := hr
      obtain rfl := g0.1 _ rfl
      clear g0
      obtain rfl := g1.1 _ rfl
      clear g1
      rw [if_pos (want_some rfl rfl rfl e1)]
      unfold Oper.wp
      go_simp
      refine (hFi f m _ hf).mono ?_
      rintro e u1 ⟨A1, c1, rfl, hB1, hb⟩
      exact hK _ _ ⟨fun _ h => no_some h, fun _ h => spec_ok h ⟨A1, c1, rfl, hB1⟩⟩ (hS.below hb) hb
    · intro a u hS hr K hK
      obtain ⟨⟨vl0, e0, g0⟩, ⟨vl1, e1, g1⟩, -⟩ := hr
      replace g0 := g0.2 _ rfl
      obtain rfl := g1.1 _ rfl
      clear g1
      rw [if_pos (want_some rfl rfl rfl e1)]
      obtain ⟨A1, c1, rfl, hB1⟩ := g0
      have z := str_bytes A1 c1 _ _ hB1
      unfold Oper.wp
      go_simp
      exact hK _ _ ⟨fun _ h => Option.some.inj h, fun _ h => no_some h⟩ hS (Below.refl _ _)
    · intro a u hS hr K hK
      obtain ⟨⟨vl0, e0, g0⟩, ⟨vl1, e1, g1⟩, -⟩ := hr
      obtain rfl := g0.1 _ rfl
      clear g0
      obtain rfl := g1.1 _ rfl
      clear g1
      rw [if_pos (want_some rfl rfl rfl e1)]
      refine wp_load_row 26 (.tmp 2) rfl _ (eval_at e0) 26 (spC f m) (0, 0) _ hS.box Try.underlying26 rfl (split_info f m) ?_
      exact hK _ _ ⟨fun _ h => Option.some.inj h, fun _ h => no_some h⟩ hS (Below.refl _ _)
    · intro a u hS hr K hK
      obtain ⟨⟨vl0, e0, g0⟩, ⟨vl1, e1, g1⟩, -⟩ := hr
      obtain rfl := g0.1 _ rfl
      clear g0
      obtain rfl := g1.1 _ rfl
      clear g1
      rw [if_pos (want_some rfl rfl rfl e1)]
      unfold Oper.wp
      go_simp
      refine (rfirst_b f m _ hf).mono ?_
      rintro e u1 ⟨A1, c1, rfl, hB1, hb⟩
      exact hK _ _ ⟨fun _ h => no_some h, fun _ h => spec_ok h ⟨A1, c1, rfl, hB1⟩⟩ (hS.below hb) hb
    · intro a u hS hr K hK
      obtain ⟨⟨vl0, e0, g0⟩, ⟨vl1, e1, g1⟩, -⟩ := hr
      replace g0 := g0.2 _ rfl
      obtain rfl := g1.1 _ rfl
      clear g1
      rw [if_pos (want_some rfl rfl rfl e1)]
      obtain ⟨A1, c1, rfl, hB1⟩ := g0
      have z := str_bytes A1 c1 _ _ hB1
      unfold Oper.wp
      go_simp
      exact hK _ _ ⟨fun _ h => Option.some.inj h, fun _ h => no_some h⟩ hS (Below.refl _ _)
    · intro a u hS hr K hK
      obtain ⟨⟨vl0, e0, g0⟩, ⟨vl1, e1, g1⟩, ⟨vl2, e2, g2⟩, -⟩ := hr
      obtain rfl := g0.1 _ rfl
      clear g0
      obtain rfl := g1.1 _ rfl
      clear g1
      obtain rfl := g2.1 _ rfl
      clear g2
      rw [if_pos (want_some rfl rfl rfl e2)]
      unfold Oper.wp
      go_simp
      exact hK _ _ ⟨fun _ h => Option.some.inj h, fun _ h => no_some h⟩ hS (Below.refl _ _)
    · intro a u hS hr K hK
      obtain ⟨⟨vl0, e0, g0⟩, ⟨vl1, e1, g1⟩, -⟩ := hr
      obtain rfl := g0.1 _ rfl
      clear g0
      obtain rfl := g1.1 _ rfl
      clear g1
      rw [if_pos (want_none rfl)]
      unfold Oper.wp
      go_simp
      exact hK _ _ ⟨fun _ h => Option.some.inj h, fun _ h => no_some h⟩ hS (Below.refl _ _)
    · intro a u hS hr K hK
      obtain ⟨⟨vl0, e0, g0⟩, -⟩ := hr
      obtain rfl := g0.1 _ rfl
      clear g0
      rw [if_pos (want_none rfl)]
      unfold Oper.wp
      go_simp
      exact hK _ _ ⟨fun _ h => Option.some.inj h, fun _ h => no_some h⟩ hS (Below.refl _ _)
    · intro a u hS hr K hK
      obtain ⟨⟨vl0, e0, g0⟩, ⟨vl1, e1, g1⟩, -⟩ := hr
      obtain rfl := g0.1 _ rfl
      clear g0
      obtain rfl := g1.1 _ rfl
      clear g1
      rw [if_pos (want_some rfl rfl rfl e1)]
      refine wp_load_row 26 (.tmp 2) rfl _ (eval_at e0) 26 (spC f m) (0, 0) _ hS.box Try.underlying26 rfl (split_info f m) ?_
      exact hK _ _ ⟨fun _ h => Option.some.inj h, fun _ h => no_some h⟩ hS (Below.refl _ _)
    · intro a u hS hr K hK
      obtain ⟨⟨vl0, e0, g0⟩, ⟨vl1, e1, g1⟩, -⟩ := hr
      obtain rfl := g0.1 _ rfl
      clear g0
      obtain rfl := g1.1 _ rfl
      clear g1
      rw [if_pos (want_some rfl rfl rfl e1)]
      unfold Oper.wp
      go_simp
      refine (hRi f m _ hf).mono ?_
      rintro e u1 ⟨rfl, hb⟩
      exact hK _ _ ⟨fun _ h => Option.some.inj h, fun _ h => no_some h⟩ (hS.below hb) hb
    · intro a u hS hr K hK
      obtain ⟨⟨vl0, e0, g0⟩, ⟨vl1, e1, g1⟩, -⟩ := hr
      obtain rfl := g0.1 _ rfl
      clear g0
      obtain rfl := g1.1 _ rfl
      clear g1
      rw [if_pos (want_some rfl rfl rfl e1)]
      refine wp_load_row 26 (.tmp 2) rfl _ (eval_at e0) 26 (spC f m) (0, 0) _ hS.box Try.underlying26 rfl (split_info f m) ?_
      exact hK _ _ ⟨fun _ h => Option.some.inj h, fun _ h => no_some h⟩ hS (Below.refl _ _)
    · intro a u hS hr K hK
      obtain ⟨⟨vl0, e0, g0⟩, ⟨vl1, e1, g1⟩, -⟩ := hr
      obtain rfl := g0.1 _ rfl
      clear g0
      obtain rfl := g1.1 _ rfl
      clear g1
      rw [if_pos (want_some rfl rfl rfl e1)]
      unfold Oper.wp
      go_simp
      refine (rright_any f m _ hf).mono ?_
      rintro e u1 ⟨rfl, hb⟩
      exact hK _ _ ⟨fun _ h => Option.some.inj h, fun _ h => no_some h⟩ (hS.below hb) hb
    · intro a u hS hr K hK
      obtain ⟨⟨vl0, e0, g0⟩, ⟨vl1, e1, g1⟩, ⟨vl2, e2, g2⟩, -⟩ := hr
      obtain rfl := g0.1 _ rfl
      clear g0
      obtain rfl := g1.1 _ rfl
      clear g1
      obtain rfl := g2.1 _ rfl
      clear g2
      rw [if_pos (want_some rfl rfl rfl e2)]
      unfold Oper.wp
      go_simp
      exact hK _ _ ⟨fun _ h => Option.some.inj h, fun _ h => no_some h⟩ hS (Below.refl _ _)
    · intro a u hS hr K hK
      obtain ⟨⟨vl0, e0, g0⟩, ⟨vl1, e1, g1⟩, -⟩ := hr
      obtain rfl := g0.1 _ rfl
      clear g0
      obtain rfl := g1.1 _ rfl
      clear g1
      rw [if_pos (want_none rfl)]
      unfold Oper.wp
      go_simp
      exact hK _ _ ⟨fun _ h => Option.some.inj h, fun _ h => no_some h⟩ hS (Below.refl _ _)
    · intro a u hS hr K hK
      obtain ⟨⟨vl0, e0, g0⟩, -⟩ := hr
      obtain rfl := g0.1 _ rfl
      clear g0
      rw [if_pos (want_none rfl)]
      unfold Oper.wp
      go_simp
      exact hK _ _ ⟨fun _ h => Option.some.inj h, fun _ h => no_some h⟩ hS (Below.refl _ _)
  intro a u hS hts hd hkn hf
  obtain ⟨v4, e4, g4⟩ := hf 26 _ 4 rfl rfl
  obtain rfl := g4.1 _ rfl
  clear hf hkn
  simp only [Exit.then]
  apply_assumption
  refine wp_ret ?_
  exact ret_slot Try.results4 e4 hd ⟨rfl, hS.bel⟩

end Go.Proofs.Ytlfbjnmehdifeaa
