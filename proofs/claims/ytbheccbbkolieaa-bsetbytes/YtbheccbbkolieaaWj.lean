/- The law's own small functions: spans, few. -/
import Derived.Test.YtbheccbbkolieaaWi
import Derived.Test.YtbheccbbkolieaaEq
namespace Go.Proofs.Ytbheccbbkolieaa
open Go.RowKit

/-- The slice at A reads as the pairs l, and lies in blocks below B. -/
def Prs (w : World) (B : Nat) (A : Option Addr) (l : List (Int × Int)) : Prop :=
  l ≠ [] → ∃ g off, A = some ⟨g, off, none⟩ ∧ g < B ∧ ∀ i, i < l.length → w.cell? ⟨g, off + i * 2, none⟩ = some (.int .u8 (l.getD i (0, 0)).1) ∧ w.cell? ⟨g, off + i * 2 + 1, none⟩ = some (.int .u8 (l.getD i (0, 0)).2)
theorem Prs.below {w w' : World} {B : Nat} {A : Option Addr} {l : List (Int × Int)} (h : Prs w B A l) (hb : Below B w w') : Prs w' B A l := fun hx => by
  obtain ⟨g, off, e, hg, ha⟩ := h hx
  exact ⟨g, off, e, hg, fun i hi => ⟨(hb.cell (p := ⟨g, _, none⟩) hg).trans (ha i hi).1, (hb.cell (p := ⟨g, _, none⟩) hg).trans (ha i hi).2⟩⟩
theorem Prs.more {w : World} {B B' : Nat} {A : Option Addr} {l : List (Int × Int)} (h : Prs w B A l) (hb : B ≤ B') : Prs w B' A l := fun hx => by
  obtain ⟨g, off, e, hg, ha⟩ := h hx
  exact ⟨g, off, e, by omega, ha⟩
theorem Prs.at_ {w : World} {B : Nat} {A : Option Addr} {l : List (Int × Int)} (h : Prs w B A l) {k : Nat} (hk : k < l.length) :
    ∃ g off, A = some ⟨g, off, none⟩ ∧ g < B ∧ w.cell? ⟨g, off + k * 2, none⟩ = some (.int .u8 (l.getD k (0, 0)).1) ∧ w.cell? ⟨g, off + k * 2 + 1, none⟩ = some (.int .u8 (l.getD k (0, 0)).2) := by
  obtain ⟨g, off, e, hg, ha⟩ := h (fun e => by subst e; simp at hk)
  exact ⟨g, off, e, hg, (ha k hk).1, (ha k hk).2⟩
theorem Prs.of_own {w : World} {b : Nat} {v : Value} {l : List (Int × Int)} (h : w.ownsRow b 42 2 v l.length (prV l)) : ∃ A c, v = .slice A l.length c ∧ Prs w w.heap.size A l := by
  rcases Nat.eq_zero_or_pos l.length with h0 | h0
  · obtain ⟨A, c, hv⟩ := own_form h
    exact ⟨A, c, hv, fun hne => absurd (List.eq_nil_of_length_eq_zero h0) hne⟩
  · obtain ⟨g, c, rfl, _, hl⟩ := own_pos h h0
    refine ⟨_, c, rfl, fun _ => ⟨g, 0, rfl, hl, fun i hi => ?_⟩⟩
    have h1 := h.cellAt (i * 2) (by omega)
    have h2 := h.cellAt (i * 2 + 1) (by omega)
    rw [(prV_at l i hi).1] at h1
    rw [(prV_at l i hi).2] at h2
    rw [Nat.zero_add]
    exact ⟨h1, h2⟩

set_option maxRecDepth 100000 in
set_option maxHeartbeats 2000000 in
theorem same_any (A B : Option Addr) (c d : Nat) (l : List (Int × Int)) (w : World) (ha : Prs w w.heap.size A l) (hb : Prs w w.heap.size B l) (hl : l.length ≤ 1000000) :
    Calls Try.prog 26 #[.slice A l.length c, .slice B l.length d] w fun e w' => e = .returned (.bool true) ∧ Below w.heap.size w w' := by
  go_enter Try.func26, Try.ntmps26
  go_wp2
  go_loopw [13] (fun i wr => ∃ k : Nat, k ≤ l.length ∧ i = .int .i64 k ∧ Below w.heap.size w wr) (fun i _ => l.length - (intOf i).toNat)
  case atStart => exact ⟨0, Nat.zero_le _, rfl, Below.refl _ _⟩
  case round =>
    obtain ⟨k, hk0, rfl, hbl⟩ := hrel
    by_cases hlt : k < l.length
    · obtain ⟨g, off, rfl, hg, x0, x1⟩ := (ha.below hbl).at_ hlt
      obtain ⟨g', off', rfl, hg', y0, y1⟩ := (hb.below hbl).at_ hlt
      generalize (l.getD k (0, 0)).1 = u at *
      generalize (l.getD k (0, 0)).2 = v at *
      have hki : (k : Int) < (l.length : Int) := by omega
      have hkn : (0 : Int) ≤ (k : Int) := by omega
      have hpn := pair_neq u v
      have hg42 := guard42
      go_wp2
      go_quiet (fail)
      go_wp2
      exact ⟨⟨k + 1, by omega, rfl, bel_drewN hbl _⟩, by simp [intOf]; omega⟩
    · go_wp2
      go_ret
      exact ⟨rfl, hbl⟩

set_option maxHeartbeats 400000 in
theorem few_any (A : Option Addr) (n c : Nat) (w : World) (hn : n ≤ maxLen) (hc : n ≤ c) :
    Calls Try.prog 10 #[.slice A n c] w fun e w' => e = .returned (.slice A (min n 20) c) ∧ w = w' := by
  unfold maxLen at hn
  go_enter Try.func10, Try.ntmps10
  go_wp2
  · go_ret
    refine ⟨?_, rfl⟩
    rw [Nat.min_eq_right (by omega)]; rfl
  · go_ret
    refine ⟨?_, rfl⟩
    rw [Nat.min_eq_left (by omega)]; rfl

end Go.Proofs.Ytbheccbbkolieaa
