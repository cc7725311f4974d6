/- The law RingLast. -/
import Derived.Test.YtblanbopjebenaaKi
namespace Go.Proofs.Ytblanbopjebenaa
open Go.RowKit

/-- The slice at A reads as the bools bs, and lies in blocks below B. -/
def Bls (w : World) (B : Nat) (A : Option Addr) (bs : List Bool) : Prop :=
  bs ≠ [] → ∃ g off, A = some ⟨g, off, none⟩ ∧ g < B ∧ ∀ i, i < bs.length → w.cell? ⟨g, off + i, none⟩ = some (.bool (bs.getD i false))
section
variable {w w' : World} {B : Nat} {A : Option Addr} {bs : List Bool}
theorem Bls.below (h : Bls w B A bs) (hb : Below B w w') : Bls w' B A bs := fun hx => by
  obtain ⟨g, off, e, hg, ha⟩ := h hx
  exact ⟨g, off, e, hg, fun i hi => (hb.cell hg).trans (ha i hi)⟩
theorem Bls.at_ (h : Bls w B A bs) {k : Nat} (hk : k < bs.length) : ∃ g off, A = some ⟨g, off, none⟩ ∧ g < B ∧ w.cell? ⟨g, off + k, none⟩ = some (.bool (bs.getD k false)) := by
  obtain ⟨g, off, e, hg, ha⟩ := h (fun e => by subst e; simp at hk)
  exact ⟨g, off, e, hg, ha k hk⟩
end

/-- Behind i Incs the greatest count is that which was put first, till it goes; where nothing is put between, there is no other. -/
def LInv (N i L : Nat) (C : List Nat) : Prop := (i < N → C ≠ [] ∧ lastN C = i + 1) ∧ (L = 0 → C = if i < N then [i + 1] else [])
theorem linv_inc {N i L : Nat} {C : List Nat} (h : LInv N i L C) (hr : Rise N C) (hi : i < N) : LInv N (i + 1) L (incL N C) := by
  obtain ⟨hne, hl⟩ := h.1 hi
  refine ⟨fun h1 => ?_, fun h0 => ?_⟩
  · have e := inc_keep hr (show lastN C < N by omega)
    rw [e, last_map C hne, hl]
    exact ⟨by simpa using hne, rfl⟩
  · rw [h.2 h0, if_pos hi]
    unfold incL
    by_cases h1 : i + 1 < N
    · rw [if_pos h1]
      simp
      omega
    · rw [if_neg h1]
      simp
      omega
theorem last_snoc (D : List Nat) (x : Nat) : lastN (D ++ [x]) = x := by simp [lastN]
theorem linv_put {N i L : Nat} {C : List Nat} (h : LInv N i L C) (hL : 0 < L) : LInv N i L (putL C) := by
  refine ⟨fun h1 => ?_, fun h0 => by omega⟩
  obtain ⟨hne, hl⟩ := h.1 h1
  unfold putL
  split
  · exact ⟨hne, hl⟩
  · refine ⟨by simp, ?_⟩
    obtain ⟨D, x, rfl⟩ := snoc_of hne
    rw [last_snoc] at hl
    rw [← List.cons_append, last_snoc]
    exact hl
theorem linv_start (N L : Nat) (h : 1 ≤ N) : LInv N 0 L (putL []) := ⟨fun _ => ⟨by decide, rfl⟩, fun _ => by rw [if_pos (by omega)]; rfl⟩
theorem last_pos {N : Nat} {C : List Nat} (hr : Rise N C) (h : C ≠ []) : 1 ≤ lastN C := by
  obtain ⟨D, x, rfl⟩ := snoc_of h
  have := (hr.2 x (by simp)).1
  simpa [lastN] using this

set_option maxRecDepth 100000 in
set_option maxHeartbeats 4000000 in
theorem last_core (m : Int) (A : Option Addr) (c N : Nat) (bs : List Bool) (w : World) (hX0 : Bls w w.heap.size A bs) (lc : bs.length ≤ c) (mc : c ≤ maxLen) (hq : Int.tmod m 4096 = (N : Int) - 1) (N1 : 1 ≤ N) (N2 : N ≤ 4096) :
    Calls Try.prog 5 #[.int .u16 m, .slice A bs.length c] w fun e w' => e = .returned (.bool true) ∧ Below w.heap.size w w' := by
  have mb : bs.length ≤ 9223372036854775807 := by unfold maxLen at mc; omega
  go_enter Try.func5, Try.ntmps5
  go_wp2_with fail
  refine (shown_any _).mono ?_
  rintro e w1 ⟨rfl, b1⟩
  go_wp2_with fail
  refine (new_any N w1 N1 N2).mono ?_
  rintro e w2 ⟨rfl, r2, b2⟩
  have D2 := b1.trans (b2.mono b1.size)
  have hg1 : w.heap.size ≤ w1.heap.size + 1 := Nat.le_succ_of_le b1.size
  have hg2 : w.heap.size ≤ w1.heap.size := b1.size
  generalize w1.heap.size + 1 = g at *
  generalize w1.heap.size = h at *
  clear b1 b2 hq lc mc
  go_wp2_with fail
  refine (Pu.put_any r2 (by omega)).mono ?_
  rintro e w3 ⟨rfl, r3, t3⟩
  have D3 := t3.bel D2 D2.size hg1 hg2
  clear r2 D2 t3
  go_wp2
  go_loopw [33] (fun i wr => ∃ (j k : Nat) (C : List Nat), j ≤ N ∧ i = .int .i64 j ∧ k ≤ 2 * j + 1 ∧ LInv N j bs.length C ∧ RingS wr g h N C k ∧ Below w.heap.size w wr) (fun i _ => N - (intOf i).toNat)
  case atStart => exact ⟨0, 1, _, Nat.zero_le _, rfl, by omega, linv_start N _ N1, r3, D3⟩
  case round =>
    obtain ⟨j, k, C, hj0, rfl, hk0, hL, r, D⟩ := hrel
    clear r3 D3
    by_cases hlt : j < N
    · obtain ⟨hne, hl⟩ := hL.1 hlt
      have hs : someN C = true := someN_yes (len_ne hne)
      have HL1 := hidd (linv_inc hL r.1 hlt)
      clear hL hne
      go_wp2_with fail
      refine (max_ring r).mono ?_
      rintro e w4 ⟨rfl, mm, rfl⟩
      have r4 := r.drewN mm
      have D4 := bel_drewN D mm
      generalize wr.drewN mm = w4 at *
      rw [hs, hl]
      have hcj : (((j + 1 : Nat) : Int)) = (j : Int) + 1 := by omega
      rw [hcj]
      clear r D hs hl
      go_wp2_with fail
      refine (inc_any r4 (by omega)).mono ?_
      rintro e w5 ⟨rfl, r5, t5⟩
      have D5 := t5.bel D4 D4.size hg1 hg2
      clear r4 D4 t5
      generalize incL N C = E at *
      by_cases hj : j < bs.length
      · obtain ⟨ga, off, rfl, hga, cx⟩ := (hX0.below D5).at_ hj
        have hL0 : 0 < bs.length := by omega
        have HL2 := hidd (linv_put HL1.out hL0)
        have hji : (j : Int) < (bs.length : Int) := by omega
        cases hb : bs.getD j false with
        | false =>
          rw [hb] at cx
          go_wp2
          exact ⟨⟨j + 1, k + 1, E, by omega, rfl, by omega, HL1.out, r5, D5⟩, by simp [intOf]; omega⟩
        | true =>
          rw [hb] at cx
          go_wp2_with fail
          refine (Pu.put_any r5 (by omega)).mono ?_
          rintro e w6 ⟨rfl, r6, t6⟩
          have D6 := t6.bel D5 D5.size hg1 hg2
          go_wp2
          exact ⟨⟨j + 1, k + 1 + 1, _, by omega, rfl, by omega, HL2.out, r6, D6⟩, by simp [intOf]; omega⟩
      · go_wp2
        exact ⟨⟨j + 1, k + 1, E, by omega, rfl, by omega, HL1.out, r5, D5⟩, by simp [intOf]; omega⟩
    · have hj : j = N := by omega
      subst hj
      have hle := last_le r.1
      have hps := last_pos r.1
      have hz := hL.2
      rw [if_neg (by omega)] at hz
      clear hL
      go_wp2_with fail
      refine (max_ring r).mono ?_
      rintro e w4 ⟨rfl, mm, rfl⟩
      have r4 := r.drewN mm
      have D4 := bel_drewN D mm
      generalize wr.drewN mm = w4 at *
      clear r D
      by_cases hc : C = []
      · subst hc
        clear hps hz
        have e0 : lastN [] = 0 := rfl
        rw [e0]
        generalize someN [] = s
        have hd1 : decide ((0 : Int) < (j : Int) + 1) = true := decide_eq_true (by omega)
        by_cases hN : j = 1
        · subst hN
          by_cases hb : bs.length = 0
          · have hb1 : ¬ (0 : Int) < (bs.length : Int) := by omega
            go_wp2_with fail
            refine (len_ring r4).mono ?_
            rintro e w5 ⟨rfl, rfl⟩
            go_wp2
            go_ret
            exact ⟨rfl, D4⟩
          · have hb1 : (0 : Int) < (bs.length : Int) := by omega
            go_wp2_with fail
            refine (len_ring r4).mono ?_
            rintro e w5 ⟨rfl, rfl⟩
            go_wp2
            go_ret
            exact ⟨rfl, D4⟩
        · have hN1 : (1 : Int) < (j : Int) := by omega
          by_cases hb : bs.length = 0
          · have hb1 : ¬ (0 : Int) < (bs.length : Int) := by omega
            go_wp2_with fail
            refine (len_ring r4).mono ?_
            rintro e w5 ⟨rfl, rfl⟩
            go_wp2
            go_ret
            exact ⟨rfl, D4⟩
          · have hb1 : (0 : Int) < (bs.length : Int) := by omega
            go_wp2_with fail
            refine (len_ring r4).mono ?_
            rintro e w5 ⟨rfl, rfl⟩
            go_wp2
            go_ret
            exact ⟨rfl, D4⟩
      · have hx := hps hc
        have hcl := len_ne hc
        have hcl2 := r4.len
        have hbl : 0 < bs.length := by
          rcases Nat.eq_zero_or_pos bs.length with h0 | h0
          · exact absurd (hz h0) hc
          · exact h0
        have HLn := len_ring r4
        clear hps hz
        generalize lastN C = x at *
        generalize someN C = s
        have hb1 : (0 : Int) < (bs.length : Int) := by omega
        have hd1 : decide ((x : Int) < (j : Int) + 1) = true := decide_eq_true (by omega)
        have hd2 : ((x : Int) == 0) = false := by simp; omega
        have hd3 : ((C.length : Int) == 0) = false := by simp; omega
        have hd4 : (0 : Int) < (j : Int) := by omega
        by_cases hN : j = 1
        · have hx1 : x = 1 := by omega
          subst hN
          subst hx1
          go_wp2_with fail
          refine (len_ring r4).mono ?_
          rintro e w5 ⟨rfl, rfl⟩
          go_wp2
          go_ret
          exact ⟨rfl, D4⟩
        · have hN1 : (1 : Int) < (j : Int) := by omega
          go_wp2_with fail
          refine (len_ring r4).mono ?_
          rintro e w5 ⟨rfl, rfl⟩
          go_wp2
          go_ret
          exact ⟨rfl, D4⟩

theorem last_any (m : Int) (A : Option Addr) (c : Nat) (l : List Bool) (w : World) (hS : Bls w w.heap.size A l) (lc : l.length ≤ c) (mc : c ≤ maxLen) (m0 : 0 ≤ m) :
    Calls Try.prog 5 #[.int .u16 m, .slice A l.length c] w fun e w' => e = .returned (.bool true) ∧ Below w.heap.size w w' :=
  last_core m A c ((m % 4096).toNat + 1) l w hS lc mc (most_rem m m0) (by omega) (by omega)

end Go.Proofs.Ytblanbopjebenaa
