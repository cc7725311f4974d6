/- The landed parser: a byte of a class, or two and what is between them. -/
import Derived.Test.YtghjkbjpdjlddaaDoorTf
namespace Go.Proofs.YtghjkbjpdjlddaaDoor
open Go.RowKit
section
variable {w w' : World}
theorem Touch.fresh {g h : Nat} (a : Touch g h w w') {x : Addr} (hx : w.heap.size ≤ x.block) (u : Value) : Touch g h w (w'.setCell x u) :=
  ⟨a.os, a.tape, a.output, by simpa [World.setCell] using a.size, fun k hk h1 h2 => (Below.heap_setCell _ _ _ _ (by omega)).trans (a.block k hk h1 h2)⟩
theorem Touch.alloc {g h : Nat} (a : Touch g h w w') (o : Obj) : Touch g h w (w'.alloc o) := a.below ((Below.refl _ _).alloc (Nat.le_refl _) o)
theorem Row4.touch {g h k : Nat} {p : Nat → Bool} (r : Row4 w k p) (a : Touch g h w w') (h1 : k ≠ g) (h2 : k ≠ h) : Row4 w' k p := (a.block k r.lt h1 h2).trans r
end
end Go.Proofs.YtghjkbjpdjlddaaDoor
namespace Go.Proofs.YtghjkbjpdjlddaaDoor.Sy
open Go.RowKit
set_option maxRecDepth 100000

section
variable {w w' : World} {b : Nat} {s : ByteArray} {er pl : Int} {v : Value} {d : Int}
theorem PR.far {i : Int} (r : PR w b s i er pl v d) {x : Addr} (hx : b ≠ x.block) (u : Value) : PR (w.setCell x u) b s i er pl v d := (Below.heap_setCell w x u b hx).trans r

/-- What is read are the bytes from one to another, and where that ends; or what is wrong. -/
def GotS (b : Nat) (s : ByteArray) (er pl : Int) (v : Value) (d : Int) (R : Except Bad ((Nat × Nat) × Nat)) (e : Ending) (w' : World) : Prop :=
  match R with
  | .ok (x, j) => e = .returned (.tuple #[.agg #[.int .u64 (W (rngS x.1 x.2) 0), .int .u64 (W (rngS x.1 x.2) 1), .int .u64 (W (rngS x.1 x.2) 2), .int .u64 (W (rngS x.1 x.2) 3)], .bool true]) ∧ PR w' b s (j : Int) er pl v d
  | .error (x, p) => e = .returned (.tuple #[.agg #[.int .u64 (W (noB) 0), .int .u64 (W (noB) 1), .int .u64 (W (noB) 2), .int .u64 (W (noB) 3)], .bool false]) ∧ ∃ j : Nat, PR w' b s (j : Int) (x : Int) (p : Int) v d

theorem ret_span {fn : Func} {R : Ending → World → Prop} {a : Act} {w : World} {t g u : Nat} {q : Nat → Bool} {z : Bool} (hr : fn.results = #[.cell t 28, .tmp u]) (ht : a.tmps.getD t undef = .pointer (some ⟨g, 0, none⟩)) (hu : a.tmps.getD u undef = .bool z)
    (h : Row4 w g q) (hd : a.defers = []) (hR : R (.returned (.tuple #[.agg #[.int .u64 (W (q) 0), .int .u64 (W (q) 1), .int .u64 (W (q) 2), .int .u64 (W (q) 3)], .bool z])) w) : bodyPost Tryd.prog fn R .ret a w := by
  obtain ⟨c0, c1, c2, c3⟩ := h.cells
  refine bodyPost_ret (v := .tuple #[.agg #[.int .u64 (W (q) 0), .int .u64 (W (q) 1), .int .u64 (W (q) 2), .int .u64 (W (q) 3)], .bool z]) ?_ hd hR
  have ht' : a.tmps[t]?.getD undef = .pointer (some ⟨g, 0, none⟩) := by rw [← ht]; simp
  have hu' : a.tmps[u]?.getD undef = .bool z := by rw [← hu]; simp
  simp [results, hr, go_sem, ht', hu', c0, c1, c2, c3]
theorem rng_one (c i : Nat) : W (inB [(c : Int)]) i = W (rngS c c) i := by
  congr 1
  funext x
  rw [Bool.eq_iff_iff]
  simp [inB, rngS]
  omega
theorem rng_two (lo hi i : Nat) : W (rngB (lo : Int) ((hi : Int) + 1)) i = W (rngS lo hi) i := by
  congr 1
  funext x
  rw [Bool.eq_iff_iff]
  simp [rngB, rngS]
  omega

set_option maxHeartbeats 2000000 in
theorem span_any {i : Nat} (r : PR w b s i er pl v d) (hi : i ≤ s.size) (hs : s.size ≤ 100000) :
    Calls Tryd.prog 103 #[.pointer (some ⟨b, 0, none⟩)] w fun e w' => Touch b b w w' ∧ GotS b s er pl v d (part (bs s) i) e w' := by
  have hbl := bs_len s
  have hby := bs_lt s
  have hb := r.lt
  have R0 := r.alloc (.cells #[.int .u64 0, .int .u64 0, .int .u64 0, .int .u64 0] 28)
  have T0 := (Touch.refl b b w).alloc (.cells #[.int .u64 0, .int .u64 0, .int .u64 0, .int .u64 0] 28)
  have Z0 := Row4.zero w
  have hbn : w.heap.size ≠ b := by omega
  have hbn' : b ≠ w.heap.size := by omega
  go_enter Tryd.func103, Tryd.ntmps103
  go_wp2_with fail
  generalize w.alloc (.cells #[.int .u64 0, .int .u64 0, .int .u64 0, .int .u64 0] 28) = w0 at *
  clear r
  refine (member_any R0 hi hs).mono ?_
  rintro e w1 ⟨T1, hg⟩
  have Z1 := Row4.touch Z0 T1 hbn hbn
  have T01 := T0.trans T1
  clear Z0 T0 T1 R0
  unfold GotB at hg
  cases ho : member (bs s) i with
  | error x =>
    rw [ho] at hg
    obtain ⟨rfl, j, R1⟩ := hg
    have HR : Hid (part (bs s) i = .error x) := by show _ = _; unfold part; rw [ho]
    obtain ⟨c0, c1, c2, c3⟩ := Z1.cells
    have ht := Z1.thawed
    clear ho
    go_wp2
    refine ret_span (q := noB) Tryd.results103 rfl rfl ?_ rfl ⟨(((T01.fresh (Nat.le_refl _) _).fresh (Nat.le_refl _) _).fresh (Nat.le_refl _) _).fresh (Nat.le_refl _) _, ?_⟩
    · have := Z1.fill noB
      rw [W_zero, W_zero, W_zero, W_zero] at this
      exact this
    · rw [HR.out]
      exact ⟨rfl, j, (((R1.far hbn' _).far hbn' _).far hbn' _).far hbn' _⟩
  | ok x =>
    obtain ⟨lo, j⟩ := x
    rw [ho] at hg
    obtain ⟨rfl, R1⟩ := hg
    have hlo := member_lt hby ho
    have hj := (member_ok ho).2
    rw [hbl] at hj
    cases hd : is (bs s) j 45 with
    | false =>
      have HR : Hid (part (bs s) i = .ok ((lo, lo), j)) := by show _ = _; unfold part; rw [ho]; simp only [hd]; rfl
      clear ho hby
      go_wp2_with fail
      refine (takes_no R1 hj hd).mono ?_
      rintro e w2 ⟨rfl, m, rfl⟩
      have R2 := R1.drewN m
      have T2 := T01.drewN m
      have Z2 := Z1.drewN m
      clear R1 T01 Z1 hd
      generalize w1.drewN m = w2 at *
      go_wp2_with fail
      have hB := bts_one w2 (lo : Int) (by omega) (by omega)
      refine (of_any (some ⟨w2.heap.size, 0, none⟩) 1 [(lo : Int)] _ hB (by simp)).mono ?_
      rintro e w3 ⟨rfl, b3⟩
      have b4 := bel1 b3
      have R3 := R2.below b4 R2.lt
      have T3 := T2.below b4
      have Z3 := Z2.below b4 Z2.lt
      rw [rng_one, rng_one, rng_one, rng_one]
      clear R2 T2 Z2 b3 b4 hB
      obtain ⟨c0, c1, c2, c3⟩ := Z3.cells
      have ht := Z3.thawed
      go_wp2
      refine ret_span (q := rngS lo lo) Tryd.results103 rfl rfl (Z3.fill _) rfl ⟨(((T3.fresh (Nat.le_refl _) _).fresh (Nat.le_refl _) _).fresh (Nat.le_refl _) _).fresh (Nat.le_refl _) _, ?_⟩
      rw [HR.out]
      exact ⟨rfl, (((R3.far hbn' _).far hbn' _).far hbn' _).far hbn' _⟩
    | true =>
      have hj1 : j + 1 ≤ s.size := by have := (is_lt hd).1; rw [hbl] at this; omega
      have hP : part (bs s) i = match member (bs s) (j + 1) with
        | .error e => .error e
        | .ok (hi, k) => if hi < lo then .error (44, j + 1) else .ok ((lo, hi), k) := by unfold part; rw [ho]; simp only [hd]; rfl
      clear ho
      go_wp2_with fail
      refine (takes_yes R1 hs hd).mono ?_
      rintro e w2 ⟨rfl, R2, T2⟩
      have T02 := T01.trans T2
      have Z2 := Row4.touch Z1 T2 hbn hbn
      clear R1 T01 Z1 hd T2
      obtain ⟨c0, c1, c2, c3, c4, c5⟩ := R2.cells
      have HP := hidd hP
      clear hP
      go_wp2_with fail
      clear c0 c1 c2 c3 c4 c5
      refine (member_any R2 hj1 hs).mono ?_
      rintro e w3 ⟨T3, hg⟩
      have Z3 := Row4.touch Z2 T3 hbn hbn
      have T03 := T02.trans T3
      clear Z2 T02 T3 R2
      unfold GotB at hg
      cases ho : member (bs s) (j + 1) with
      | error x =>
        rw [ho] at hg HP
        obtain ⟨rfl, j2, R3⟩ := hg
        obtain ⟨c0, c1, c2, c3⟩ := Z3.cells
        have ht := Z3.thawed
        clear ho
        go_wp2
        refine ret_span (q := noB) Tryd.results103 rfl rfl ?_ rfl ⟨(((T03.fresh (Nat.le_refl _) _).fresh (Nat.le_refl _) _).fresh (Nat.le_refl _) _).fresh (Nat.le_refl _) _, ?_⟩
        · have := Z3.fill noB
          rw [W_zero, W_zero, W_zero, W_zero] at this
          exact this
        · rw [HP.out]
          exact ⟨rfl, j2, (((R3.far hbn' _).far hbn' _).far hbn' _).far hbn' _⟩
      | ok x =>
        obtain ⟨hi2, k⟩ := x
        rw [ho] at hg HP
        obtain ⟨rfl, R3⟩ := hg
        have hhi := member_lt hby ho
        clear ho hby
        by_cases hlt : hi2 < lo
        · have HR : Hid (part (bs s) i = .error (44, j + 1)) := by show _ = _; rw [HP.out]; simp only [if_pos hlt]
          have hlti : (hi2 : Int) < (lo : Int) := by omega
          clear HP hlt
          go_wp2_with fail
          refine (fail_any R3 44 _).mono ?_
          rintro e w4 ⟨rfl, R4, T4⟩
          have Z4 := Row4.touch Z3 T4 hbn hbn
          have T04 := T03.trans T4
          clear Z3 T03 T4 R3
          obtain ⟨c0, c1, c2, c3⟩ := Z4.cells
          have ht := Z4.thawed
          go_wp2
          refine ret_span (q := noB) Tryd.results103 rfl rfl ?_ rfl ⟨(((T04.fresh (Nat.le_refl _) _).fresh (Nat.le_refl _) _).fresh (Nat.le_refl _) _).fresh (Nat.le_refl _) _, ?_⟩
          · have := Z4.fill noB
            rw [W_zero, W_zero, W_zero, W_zero] at this
            exact this
          · rw [HR.out]
            exact ⟨rfl, k, (((R4.far hbn' _).far hbn' _).far hbn' _).far hbn' _⟩
        · have HR : Hid (part (bs s) i = .ok ((lo, hi2), k)) := by show _ = _; rw [HP.out]; simp only [if_neg hlt]
          have hlti : ¬ (hi2 : Int) < (lo : Int) := by omega
          clear HP hlt
          go_wp2_with fail
          refine (range_any (lo : Int) (hi2 : Int) _ (by omega) (by omega) (by omega) (by omega)).mono ?_
          rintro e w4 ⟨rfl, b4⟩
          have R4 := R3.below b4 R3.lt
          have T04 := T03.below b4
          have Z4 := Z3.below b4 Z3.lt
          rw [rng_two, rng_two, rng_two, rng_two]
          clear R3 T03 Z3 b4
          obtain ⟨c0, c1, c2, c3⟩ := Z4.cells
          have ht := Z4.thawed
          go_wp2
          refine ret_span (q := rngS lo hi2) Tryd.results103 rfl rfl (Z4.fill _) rfl ⟨(((T04.fresh (Nat.le_refl _) _).fresh (Nat.le_refl _) _).fresh (Nat.le_refl _) _).fresh (Nat.le_refl _) _, ?_⟩
          rw [HR.out]
          exact ⟨rfl, (((R4.far hbn' _).far hbn' _).far hbn' _).far hbn' _⟩
end

end Go.Proofs.YtghjkbjpdjlddaaDoor.Sy
