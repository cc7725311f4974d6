/- List, of bset and of its reference. -/
import Derived.Test.YtlfbjnmehdifeaaWc
import Derived.OwnWalk
import Derived.Maps.AppendAt
namespace Go.Proofs.Ytlfbjnmehdifeaa
open Go.RowKit

/-- The bytes below n of a set, rising. -/
def lstB (p : Nat → Bool) (n : Nat) : List Int := ((List.range n).filter p).map fun x : Nat => (x : Int)
def u8s (l : List Int) : List Value := l.map (Value.int .u8)
theorem lst_len (p : Nat → Bool) (n : Nat) : (lstB p n).length ≤ n := by
  unfold lstB
  rw [List.length_map]
  exact Nat.le_trans (List.length_filter_le _ _) (by simp)
theorem lst_yes (p : Nat → Bool) (n : Nat) (h : p n = true) : lstB p (n + 1) = lstB p n ++ [(n : Int)] := by
  unfold lstB; rw [List.range_succ, List.filter_append]; simp [h]
theorem lst_no (p : Nat → Bool) (n : Nat) (h : p n = false) : lstB p (n + 1) = lstB p n := by
  unfold lstB; rw [List.range_succ, List.filter_append]; simp [h]
theorem u8s_snoc (l : List Int) (x : Int) : u8s l ++ [.int .u8 x] = u8s (l ++ [x]) := by simp [u8s]

theorem own_base {w : World} {b b' : Nat} {e : TypeId} {size : Nat} {v : Value} {n : Nat} {xs : List Value} (h : w.ownsRow b e size v n xs) (hb : b' ≤ b) : w.ownsRow b' e size v n xs := by
  obtain ⟨h1, h2⟩ := h
  refine ⟨h1, ?_⟩
  rcases h2 with h2 | ⟨g, cap, cur, hv, hg, r⟩
  · exact .inl h2
  · exact .inr ⟨g, cap, cur, hv, Nat.le_trans hb hg, r⟩
theorem own_below {w w' : World} {b B : Nat} {e : TypeId} {size : Nat} {v : Value} {n : Nat} {xs : List Value} (h : w.ownsRow b e size v n xs) (hb : Below B w w') (hB : w.heap.size ≤ B) : w'.ownsRow b e size v n xs := by
  obtain ⟨h1, h2⟩ := h
  refine ⟨h1, ?_⟩
  rcases h2 with h2 | ⟨g, cap, cur, hv, hg, hh, r⟩
  · exact .inl h2
  · have hl : g < w.heap.size := by
      rcases Nat.lt_or_ge g w.heap.size with hl | hl
      · exact hl
      · rw [Array.getElem?_eq_none hl] at hh; cases hh
    exact .inr ⟨g, cap, cur, hv, hg, (hb.block g (by omega)).trans hh, r⟩
theorem Row4.grown {w w' : World} {g : Nat} {p : Nat → Bool} {row : Option Nat} (h : Row4 w g p) (hg : w.grownBy w' row) (hr : some g ≠ row) : Row4 w' g p := (hg.block g h.lt hr).trans h

theorem byte_info : (Try.prog.info? 5).map (fun i => (i.zero, i.size, i.bytes)) = some (some (.int .u8 0), 1, 1) := by kernel_rfl

set_option maxRecDepth 100000 in
set_option maxHeartbeats 1000000 in
theorem rlist_any (p : Nat → Bool) (w : World) :
    Calls Try.prog 21 #[.agg #[.int .u64 (W (p) 0), .int .u64 (W (p) 1), .int .u64 (W (p) 2), .int .u64 (W (p) 3)]] w fun e w' => ∃ v, e = .returned v ∧ w'.ownsRow w.heap.size 5 1 v (lstB p 256).length (u8s (lstB p 256)) ∧ Below w.heap.size w w' := by
  obtain ⟨i0, hi0, hz0, hz1, hz2⟩ := info_parts byte_info
  go_enter Try.func21, Try.ntmps21
  go_wp2
  go_loopw [3, 4] (fun l i wr => ∃ k : Nat, k ≤ 256 ∧ i = .int .i64 k ∧ wr.ownsRow (w.heap.size + 1) 5 1 l (lstB p k).length (u8s (lstB p k)) ∧ Row4 wr w.heap.size p ∧ Below w.heap.size w wr) (fun _ i _ => 256 - (intOf i).toNat)
  case atStart => exact ⟨0, Nat.zero_le _, rfl, World.ownsRow_nil _ _ _ _, Row4.new w p, (Below.refl _ _).alloc (Nat.le_refl _) _⟩
  case round =>
    obtain ⟨k, hk0, rfl, hown, R, hb⟩ := hrel
    obtain ⟨c0, c1, c2, c3⟩ := R.cells
    by_cases hlt : k < 256
    · have hk1 : (k : Int) ≤ 255 := by omega
      go_wp2_with fail
      refine (rhas_any p (k : Int) _ (by omega) hk1).mono ?_
      rintro e w1 ⟨rfl, hb1⟩
      have Q := R.below hb1 R.lt
      have hown1 := own_below hown hb1 (Nat.le_refl _)
      have hbb := hb.trans (hb1.mono hb.size)
      have hz := Q.lt
      rw [Int.toNat_natCast]
      have hn := lst_len p k
      clear c0 c1 c2 c3 R hown hb1
      cases hp : p k with
      | true =>
        have HS := hidd (lst_yes p k hp)
        go_wp2_with (at_builtin; refine wpList_append_own _ rfl (.tmp 13) (.tmp 16) 35 rfl (w.heap.size + 1) 5 i0 (.int .u8 0) 1 1 Try.underlying35 hi0 hz0 hz1 hz2 rfl (by omega) _ _ _ rfl (hown1.alloc _) ⟨w1.heap.size, 0, none⟩ 1 1 [.int .u8 (k : Int)] rfl rfl (cell_one_new _ _ _) (by simp [Value.oneCell']) (by simp only [maxLen]; omega) (by omega) (by simp; omega) ?_; intro v2 w2 hown2 hg2 _)
        change (w1.alloc _).grownBy w2 u3.ownBlock at hg2
        have hlt2 := hown1.lt
        refine ⟨⟨k + 1, by omega, rfl, ?_, (Q.alloc _).grown hg2 (fun e => ?_), (hbb.alloc (by omega) _).grown hg2 (by simp; omega) (fun j e => ?_)⟩, by simp [intOf]; omega⟩
        · rw [HS.out, List.length_append, ← u8s_snoc]; exact hown2
        · have := (hlt2 _ e.symm).1; omega
        · have := (hlt2 _ e).1; omega
      | false =>
        have HS := hidd (lst_no p k hp)
        go_wp2
        refine ⟨⟨k + 1, by omega, rfl, ?_, Q, hbb⟩, by simp [intOf]; omega⟩
        rw [HS.out]; exact hown1
    · have hk2 : k = 256 := by omega
      go_wp2
      go_ret
      subst hk2
      exact ⟨_, rfl, own_base hown (by omega), hb⟩
end Go.Proofs.Ytlfbjnmehdifeaa
