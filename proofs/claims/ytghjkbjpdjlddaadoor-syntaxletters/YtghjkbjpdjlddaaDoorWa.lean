/- What the calls of bset and of its reference on single sets do: the smallest ones. -/
import Derived.Test.YtghjkbjpdjlddaaDoorRows
import Derived.Test.YtghjkbjpdjlddaaDoorMem
import Derived.WalkKit
import Derived.WalkSpells
import Derived.WalkLawsBesides
import Derived.Deep.QuietTactic
import Derived.BigQuiet
import Derived.Handy

namespace Go.Proofs.YtghjkbjpdjlddaaDoor
open Go.RowKit

/-- A set that lies in the result's own block is what is returned. -/
theorem ret_set {fn : Func} {R : Ending → World → Prop} {a : Act} {w : World} {t g : Nat} {q : Nat → Bool} (hr : fn.results = #[.cell t 28]) (ht : a.tmps.getD t undef = .pointer (some ⟨g, 0, none⟩))
    (h : Row4 w g q) (hd : a.defers = []) (hR : R (.returned (.agg #[.int .u64 (W (q) 0), .int .u64 (W (q) 1), .int .u64 (W (q) 2), .int .u64 (W (q) 3)])) w) : bodyPost Tryd.prog fn R .ret a w := by
  obtain ⟨c0, c1, c2, c3⟩ := h.cells
  refine bodyPost_ret (v := .agg #[.int .u64 (W (q) 0), .int .u64 (W (q) 1), .int .u64 (W (q) 2), .int .u64 (W (q) 3)]) ?_ hd hR
  have ht' : a.tmps[t]?.getD undef = .pointer (some ⟨g, 0, none⟩) := by rw [← ht]; simp
  simp [results, hr, go_sem, ht', c0, c1, c2, c3]

set_option maxHeartbeats 400000 in
theorem bit_any (b : Int) (w : World) (h0 : 0 ≤ b) (h1 : b ≤ 255) :
    Calls Tryd.prog 52 #[.int .u8 b] w fun e w' => e = .returned (.int .u64 (W (oneB b.toNat) (b.toNat / 64))) ∧ w = w' := by
  go_enter Tryd.func52, Tryd.ntmps52
  go_wp2
  go_ret
  refine ⟨ret_int ?_, rfl⟩
  rw [← pow_W]
  have : (b % 64).toNat = b.toNat % 64 := by omega
  rw [← this]

/-- Word k of four. -/
theorem four_at (p : Nat → Bool) (b : Int) (h0 : 0 ≤ b) (h1 : b ≤ 255) :
    [Value.int IntKind.u64 (W p 0), Value.int IntKind.u64 (W p 1), Value.int IntKind.u64 (W p 2), Value.int IntKind.u64 (W p 3)][(b / 64).toNat]? = some (.int .u64 (W p (b.toNat / 64))) := by
  have e : (b / 64).toNat = b.toNat / 64 := by omega
  have h : b.toNat / 64 = 0 ∨ b.toNat / 64 = 1 ∨ b.toNat / 64 = 2 ∨ b.toNat / 64 = 3 := by omega
  rw [e]
  rcases h with h | h | h | h <;> rw [h] <;> rfl

set_option maxHeartbeats 400000 in
theorem rhas_any (p : Nat → Bool) (b : Int) (w : World) (h0 : 0 ≤ b) (h1 : b ≤ 255) :
    Calls Tryd.prog 54 #[.agg #[.int .u64 (W (p) 0), .int .u64 (W (p) 1), .int .u64 (W (p) 2), .int .u64 (W (p) 3)], .int .u8 b] w fun e w' => e = .returned (.bool (p b.toNat)) ∧ Below w.heap.size w w' := by
  have h4 := four_at p b h0 h1
  have hn := W_nonneg p (b.toNat / 64)
  go_enter Tryd.func54, Tryd.ntmps54
  go_wp2
  go_ret
  refine ⟨ret_bool ?_, (Below.refl _ _).alloc (Nat.le_refl _) _⟩
  rw [Int.tmod_eq_emod_of_nonneg (Int.ediv_nonneg hn (by exact Int.le_of_lt (Int.pow_pos (by decide))))]
  have : (b % 64).toNat = b.toNat % 64 := by omega
  rw [this]
  exact rhas_W p _

set_option maxHeartbeats 400000 in
theorem has_any (p : Nat → Bool) (b : Int) (w : World) (h0 : 0 ≤ b) (h1 : b ≤ 255) :
    Calls Tryd.prog 67 #[.agg #[.int .u64 (W (p) 0), .int .u64 (W (p) 1), .int .u64 (W (p) 2), .int .u64 (W (p) 3)], .int .u8 b] w fun e w' => e = .returned (.bool (p b.toNat)) ∧ Below w.heap.size w w' := by
  have h4 := four_at p b h0 h1
  go_enter Tryd.func67, Tryd.ntmps67
  go_wp2
  go_quiet ((go_at_call 52; exact Calls.quiet_of_same ((bit_any _ _ h0 h1).mono fun _ _ h => ⟨h.1, h.2.symm⟩)))
  go_wp2
  go_ret
  exact ⟨ret_bool (has_W p _), bel_drewN ((Below.refl _ _).alloc (Nat.le_refl _) _) _⟩

set_option maxHeartbeats 400000 in
theorem not_any (p : Nat → Bool) (w : World) :
    Calls Tryd.prog 28 #[.agg #[.int .u64 (W (p) 0), .int .u64 (W (p) 1), .int .u64 (W (p) 2), .int .u64 (W (p) 3)]] w fun e w' => e = .returned (.agg #[.int .u64 (W (notB p) 0), .int .u64 (W (notB p) 1), .int .u64 (W (notB p) 2), .int .u64 (W (notB p) 3)]) ∧ Below w.heap.size w w' := by
  go_enter Tryd.func28, Tryd.ntmps28
  go_wp2
  go_rounds 5
  have hm : ∀ i, bits BinOp.xor IntKind.u64 IntKind.u64.max (W p i) = W (notB p) i := fun i => W_not p i
  simp only [hm]
  exact bodyPost_ret (v := .agg #[.int .u64 (W (notB p) 0), .int .u64 (W (notB p) 1), .int .u64 (W (notB p) 2), .int .u64 (W (notB p) 3)]) (by simp [results, Tryd.results28, go_sem]) rfl ⟨rfl, (((Below.refl _ _).alloc (Nat.le_refl _) _).alloc (by simp) _).alloc (by simp; omega) _⟩

set_option maxHeartbeats 1000000 in
theorem with_any (p : Nat → Bool) (b : Int) (w : World) (h0 : 0 ≤ b) (h1 : b ≤ 255) :
    Calls Tryd.prog 35 #[.agg #[.int .u64 (W (p) 0), .int .u64 (W (p) 1), .int .u64 (W (p) 2), .int .u64 (W (p) 3)], .int .u8 b] w fun e w' => e = .returned (.agg #[.int .u64 (W (addB p b.toNat) 0), .int .u64 (W (addB p b.toNat) 1), .int .u64 (W (addB p b.toNat) 2), .int .u64 (W (addB p b.toNat) 3)]) ∧ Below w.heap.size w w' := by
  cases hp : p b.toNat with
  | true =>
    have e : (addB p b.toNat) = p := by
      funext x
      by_cases h : x = b.toNat
      · subst h; simp [hp, addB]
      · simp [h, addB]
    rw [e]
    clear e
    go_enter Tryd.func35, Tryd.ntmps35
    go_wp2_with fail
    refine (rhas_any p _ _ h0 h1).mono ?_
    rintro e w1 ⟨rfl, hb⟩
    obtain ⟨c0, c1, c2, c3⟩ := (((Row4.new w p).alloc _).below hb (by simp; omega)).cells
    have R := (Row4.zero (w.alloc (.cells (#[.int .u64 (W (p) 0), .int .u64 (W (p) 1), .int .u64 (W (p) 2), .int .u64 (W (p) 3)]) 28))).below hb (by simp)
    rw [World.size_alloc] at R
    obtain ⟨r0, r1, r2, r3⟩ := R.cells
    have rf := R.thawed
    go_wp2
    exact ret_set Tryd.results35 rfl (R.fill p) rfl
      ⟨rfl, ((((bel1 (bel1 hb)).setCell (by simp) _).setCell (by simp) _).setCell (by simp) _).setCell (by simp) _⟩
  | false =>
    have hw := with_W p b.toNat hp
    have ho := oth_W p b.toNat
    have em : (b % 64).toNat = b.toNat % 64 := by omega
    rw [← em] at hw
    have hk : b / 64 = 0 ∨ b / 64 = 1 ∨ b / 64 = 2 ∨ b / 64 = 3 := by omega
    rcases hk with hk | hk | hk | hk
    all_goals
      have hk' : b.toNat / 64 = (b / 64).toNat := by omega
      rw [hk] at hk'
      simp only [Int.toNat_zero, Int.toNat_one, Int.reduceToNat] at hk'
      rw [hk'] at hw ho
      have H0 := hidd (ho 0)
      have H1 := hidd (ho 1)
      have H2 := hidd (ho 2)
      have H3 := hidd (ho 3)
      have HW := hidd hw
      clear ho hw em hk'
      go_enter Tryd.func35, Tryd.ntmps35
      go_wp2_with fail
      refine (rhas_any p _ _ h0 h1).mono ?_
      rintro e w1 ⟨rfl, hb⟩
      have C := ((Row4.new w p).alloc _).below hb (by simp; omega)
      obtain ⟨c0, c1, c2, c3⟩ := C.cells
      have cf := C.thawed
      have R := (Row4.zero (w.alloc (.cells (#[.int .u64 (W (p) 0), .int .u64 (W (p) 1), .int .u64 (W (p) 2), .int .u64 (W (p) 3)]) 28))).below hb (by simp)
      rw [World.size_alloc] at R
      obtain ⟨r0, r1, r2, r3⟩ := R.cells
      have rf := R.thawed
      go_wp2
      rw [HW.out]
      first | rw [← H0.out (by decide), ← H1.out (by decide), ← H2.out (by decide)] | rw [← H0.out (by decide), ← H1.out (by decide), ← H3.out (by decide)] | rw [← H0.out (by decide), ← H2.out (by decide), ← H3.out (by decide)] | rw [← H1.out (by decide), ← H2.out (by decide), ← H3.out (by decide)]
      exact ret_set Tryd.results35 rfl ((R.far (by simp) _).fill (addB p b.toNat)) rfl
        ⟨rfl, (((((bel1 (bel1 hb)).setCell (by simp) _).setCell (by simp) _).setCell (by simp) _).setCell (by simp) _).setCell (by simp) _⟩
end Go.Proofs.YtghjkbjpdjlddaaDoor
