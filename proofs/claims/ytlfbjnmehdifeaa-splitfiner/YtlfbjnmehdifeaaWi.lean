/- Spans, of bset and of its reference. -/
import Derived.Test.YtlfbjnmehdifeaaWh
import Derived.Test.YtlfbjnmehdifeaaSp
import Derived.Deep.AppendLies
namespace Go.Proofs.Ytlfbjnmehdifeaa
open Go.RowKit


theorem own_form {w : World} {b : Nat} {e : TypeId} {size : Nat} {v : Value} {n : Nat} {xs : List Value} (h : w.ownsRow b e size v n xs) : ∃ A c, v = .slice A n c := by
  rcases h.2 with ⟨hv, hn⟩ | ⟨g, cap, cur, hv, _⟩
  · exact ⟨none, 0, by rw [hv, hn]⟩
  · exact ⟨_, _, hv⟩
theorem own_pos {w : World} {b : Nat} {e : TypeId} {size : Nat} {v : Value} {n : Nat} {xs : List Value} (h : w.ownsRow b e size v n xs) (hn : 0 < n) : ∃ g c, v = .slice (some ⟨g, 0, none⟩) n c ∧ b ≤ g ∧ g < w.heap.size := by
  rcases h.2 with ⟨hv, h0⟩ | ⟨g, cap, cur, hv, hg, hh, _⟩
  · omega
  · refine ⟨g, cap, hv, hg, ?_⟩
    rcases Nat.lt_or_ge g w.heap.size with hl | hl
    · exact hl
    · rw [Array.getElem?_eq_none hl] at hh; cases hh

theorem u8s_at (l : List Int) (i : Nat) (h : i < l.length) : (u8s l)[i]? = some (.int .u8 (l.getD i 0)) := by
  unfold u8s
  rw [List.getElem?_map, List.getElem?_eq_getElem h, List.getD_eq_getElem?_getD, List.getElem?_eq_getElem h]
  rfl
theorem Bts.of_own {w : World} {b : Nat} {v : Value} {xs : List Int} (h : w.ownsRow b 5 1 v xs.length (u8s xs)) (hx : ∀ x ∈ xs, 0 ≤ x ∧ x ≤ 255) : ∃ A c, v = .slice A xs.length c ∧ Bts w w.heap.size A xs := by
  rcases Nat.eq_zero_or_pos xs.length with h0 | h0
  · obtain ⟨A, c, hv⟩ := own_form h
    exact ⟨A, c, hv, hx, fun hne => absurd (List.eq_nil_of_length_eq_zero h0) hne⟩
  · obtain ⟨g, c, rfl, _, hl⟩ := own_pos h h0
    refine ⟨_, c, rfl, hx, fun _ => ⟨g, 0, rfl, hl, fun i hi => ?_⟩⟩
    have := h.cellAt i (by omega)
    rw [u8s_at xs i hi] at this
    rw [Nat.zero_add]
    exact this



end Go.Proofs.Ytlfbjnmehdifeaa
