/- The reference's Set: the bytes of a class. -/
import Derived.Test.YtlfbjnmehdifeaaXb
import Derived.Test.YtlfbjnmehdifeaaSq
import Derived.Test.YtlfbjnmehdifeaaWi
namespace Go.Proofs.Ytlfbjnmehdifeaa
open Go.RowKit

/-- The bytes of the class k. -/
def clsB (f : Nat → Int) (k : Int) (x : Nat) : Bool := decide (f x = k)
theorem set_same {p q : Nat → Bool} (h : ∀ b, b < 256 → p b = q b) : (.agg #[.int .u64 (W (p) 0), .int .u64 (W (p) 1), .int .u64 (W (p) 2), .int .u64 (W (p) 3)] : Value) = .agg #[.int .u64 (W (q) 0), .int .u64 (W (q) 1), .int .u64 (W (q) 2), .int .u64 (W (q) 3)] := by
  have e : ∀ i, i < 4 → W p i = W q i := fun i hi => W_congr fun j hj => h _ (by omega)
  rw [e 0 (by omega), e 1 (by omega), e 2 (by omega), e 3 (by omega)]

set_option maxRecDepth 100000 in
set_option maxHeartbeats 1000000 in
theorem rset_any (f : Nat → Int) (m c : Int) (w : World) (hf : ∀ k, k < 256 → 0 ≤ f k ∧ f k ≤ 255) :
    Calls Try.prog 15 #[.agg (spC f m), .int .i64 c] w fun e w' => e = .returned (.agg #[.int .u64 (W (clsB f c) 0), .int .u64 (W (clsB f c) 1), .int .u64 (W (clsB f c) 2), .int .u64 (W (clsB f c) 3)]) ∧ Below w.heap.size w w' := by
  obtain ⟨i0, hi0, hz0, hz1, hz2⟩ := info_parts byte_info
  go_enter Try.func15, Try.ntmps15
  go_wp2
  go_loopw [5, 6] (fun l i wr => ∃ k : Nat, k ≤ 256 ∧ i = .int .i64 k ∧ wr.ownsRow (w.heap.size + 1 + 1) 5 1 l (lstB (clsB f c) k).length (u8s (lstB (clsB f c) k)) ∧ RowS wr w.heap.size f m ∧ Row4 wr (w.heap.size + 1) noB ∧ Below w.heap.size w wr) (fun _ i _ => 256 - (intOf i).toNat)
  case atStart =>
    have R := Row4.zero (w.alloc (.cells (spC f m) 26))
    rw [World.size_alloc] at R
    exact ⟨0, Nat.zero_le _, rfl, World.ownsRow_nil _ _ _ _, (RowS.new w f m).alloc _, R, ((Below.refl _ _).alloc (Nat.le_refl _) _).alloc (by simp) _⟩
  case round =>
    obtain ⟨k, hk0, rfl, hown, R, Q, hb⟩ := hrel
    have hn := lst_len (clsB f c) k
    have hz := Q.lt
    by_cases hlt : k < 256
    · have hfk := hf k hlt
      have hat := R.at_ k hlt
      by_cases h1 : f k = c
      · have HS := hidd (lst_yes (clsB f c) k (by simp [clsB, h1]))
        go_wp2_with (at_builtin; refine wpList_append_own _ rfl (.tmp 18) (.tmp 21) 35 rfl (w.heap.size + 1 + 1) 5 i0 (.int .u8 0) 1 1 Try.underlying35 hi0 hz0 hz1 hz2 rfl (by omega) _ _ _ rfl (hown.alloc _) ⟨wr.heap.size, 0, none⟩ 1 1 [.int .u8 (k : Int)] rfl rfl (cell_one_new _ _ _) (by simp [Value.oneCell']) (by simp only [maxLen]; omega) (by omega) (by simp; omega) ?_; intro v2 w2 hown2 hg2 _)
        change (wr.alloc _).grownBy w2 u5.ownBlock at hg2
        have hlt2 := hown.lt
        refine ⟨⟨k + 1, by omega, rfl, ?_, (R.alloc _).grown hg2 (fun e => ?_), (Q.alloc _).grown hg2 (fun e => ?_), (hb.alloc (by omega) _).grown hg2 (by simp; omega) (fun j e => ?_)⟩, by simp [intOf]; omega⟩
        · rw [HS.out, List.length_append, ← u8s_snoc]; exact hown2
        · have := (hlt2 _ e.symm).1; omega
        · have := (hlt2 _ e.symm).1; omega
        · have := (hlt2 _ e).1; omega
      · have HS := hidd (lst_no (clsB f c) k (by simp [clsB, h1]))
        go_wp2
        refine ⟨⟨k + 1, by omega, rfl, ?_, R, Q, hb⟩, by simp [intOf]; omega⟩
        rw [HS.out]; exact hown
    · have hk2 : k = 256 := by omega
      subst hk2
      obtain ⟨A, cc, hu, hB⟩ := Bts.of_own hown (lst_byte _)
      subst hu
      have hlen : (lstB (clsB f c) 256).length ≤ 1000000 := by omega
      go_wp2_with fail
      refine (rof_any A cc _ _ hB hlen).mono ?_
      rintro e w3 ⟨rfl, hb3⟩
      have Q3 := Q.below hb3 Q.lt
      have cf := Q3.thawed
      obtain ⟨c0, c1, c2, c3⟩ := Q3.cells
      have e := hidd (set_same (lst_has (clsB f c)))
      have hbb := hb.trans (hb3.mono hb.size)
      go_wp2
      refine ret_set Try.results15 rfl (Q3.fill (inB (lstB (clsB f c) 256))) rfl ⟨congrArg Ending.returned e.out, ?_⟩
      exact (((hbb.setCell (by simp) _).setCell (by simp) _).setCell (by simp) _).setCell (by simp) _

end Go.Proofs.Ytlfbjnmehdifeaa
