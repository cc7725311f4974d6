/- split as it landed: Right, Set. -/
import Derived.Test.YtlfbjnmehdifeaaAr
import Derived.Test.YtlfbjnmehdifeaaXi
namespace Go.Proofs.Ytlfbjnmehdifeaa
open Go.RowKit

set_option maxRecDepth 100000 in
set_option maxHeartbeats 1000000 in
theorem right_any : RightC := by
  intro f m w hf
  go_enter Try.func18, Try.ntmps18
  have R0 := RowS.new w f m
  go_wp2_with (refine wpList_load_mid rfl 24 (.tmp 6) rfl w.heap.size 0 rfl (clsC f) _ R0.range Try.underlying24 rfl (cls_info f) ?_)
  go_loopw [3, 8] (fun mn i wr => ∃ (k : Nat) (c : Int), k ≤ 256 ∧ i = .int .i64 k ∧ mn = .int .i64 c ∧ rightK f k = some c ∧ RowS wr w.heap.size f m ∧ Below w.heap.size w wr) (fun _ i _ => 256 - (intOf i).toNat)
  case atStart => exact ⟨0, 0, Nat.zero_le _, rfl, rfl, rfl, R0, (Below.refl _ _).alloc (Nat.le_refl _) _⟩
  case round =>
    obtain ⟨k, c, hk0, rfl, rfl, hc, R, hb⟩ := hrel
    have hcb := rightK_le f k c hc
    by_cases hlt : k < 256
    · have hfk := hf k hlt
      have hix := cls_index f k hlt
      by_cases h1 : f k > c
      · have HS := hidd (rightK_early f k c m hlt hc h1)
        go_wp2
        go_ret
        exact ⟨by rw [HS.out]; rfl, hb⟩
      · by_cases h2 : f k = c
        · have HS : Hid (rightK f (k + 1) = some (c + 1)) := by show rightK f (k + 1) = some (c + 1); unfold rightK; rw [hc]; simp [h2]
          go_wp2
          exact ⟨⟨k + 1, c + 1, by omega, rfl, rfl, HS.out, R, hb⟩, by simp [intOf]; omega⟩
        · have HS : Hid (rightK f (k + 1) = some c) := by show rightK f (k + 1) = some c; unfold rightK; rw [hc]; simp [h1, h2]
          go_wp2
          exact ⟨⟨k + 1, c, by omega, rfl, rfl, HS.out, R, hb⟩, by simp [intOf]; omega⟩
    · have hk2 : k = 256 := by omega
      have hmn := R.many
      subst hk2
      have HS := hidd hc
      clear hc
      go_wp2
      go_ret
      refine ⟨?_, hb⟩
      rw [HS.out]
      show Ending.returned (.bool (decide (c = m))) = _
      simp only [Option.some.injEq]

set_option maxRecDepth 100000 in
set_option maxHeartbeats 1000000 in
theorem set_any : SetC := by
  intro f m c w hf
  obtain ⟨i0, hi0, hz0, hz1, hz2⟩ := info_parts byte_info
  go_enter Try.func14, Try.ntmps14
  have R0 := (RowS.new w f m).alloc (.cells #[.int .u64 0, .int .u64 0, .int .u64 0, .int .u64 0] 33)
  go_wp2_with (refine wpList_load_mid rfl 24 (.tmp 8) rfl w.heap.size 0 rfl (clsC f) _ R0.range Try.underlying24 rfl (cls_info f) ?_)
  go_loopw [5, 10] (fun l i wr => ∃ k : Nat, k ≤ 256 ∧ i = .int .i64 k ∧ wr.ownsRow (w.heap.size + 1 + 1) 5 1 l (lstB (clsB f c) k).length (u8s (lstB (clsB f c) k)) ∧ Row4 wr (w.heap.size + 1) noB ∧ Below w.heap.size w wr) (fun _ i _ => 256 - (intOf i).toNat)
  case atStart =>
    have R := Row4.zero (w.alloc (.cells (spC f m) 26))
    rw [World.size_alloc] at R
    exact ⟨0, Nat.zero_le _, rfl, World.ownsRow_nil _ _ _ _, R, ((Below.refl _ _).alloc (Nat.le_refl _) _).alloc (by simp) _⟩
  case round =>
    obtain ⟨k, hk0, rfl, hown, Q, hb⟩ := hrel
    have hn := lst_len (clsB f c) k
    have hz := Q.lt
    by_cases hlt : k < 256
    · have hfk := hf k hlt
      have hix := cls_index f k hlt
      by_cases h1 : f k = c
      · have HS := hidd (lst_yes (clsB f c) k (by simp [clsB, h1]))
        go_wp2_with (at_builtin; refine wpList_append_own _ rfl (.tmp 18) (.tmp 21) 35 rfl (w.heap.size + 1 + 1) 5 i0 (.int .u8 0) 1 1 Try.underlying35 hi0 hz0 hz1 hz2 rfl (by omega) _ _ _ rfl (hown.alloc _) ⟨wr.heap.size, 0, none⟩ 1 1 [.int .u8 (k : Int)] rfl rfl (cell_one_new _ _ _) (by simp [Value.oneCell']) (by simp only [maxLen]; omega) (by omega) (by simp; omega) ?_; intro v2 w2 hown2 hg2 _)
        change (wr.alloc _).grownBy w2 u5.ownBlock at hg2
        have hlt2 := hown.lt
        refine ⟨⟨k + 1, by omega, rfl, ?_, (Q.alloc _).grown hg2 (fun e => ?_), (hb.alloc (by omega) _).grown hg2 (by simp; omega) (fun j e => ?_)⟩, by simp [intOf]; omega⟩
        · rw [HS.out, List.length_append, ← u8s_snoc]; exact hown2
        · have := (hlt2 _ e.symm).1; omega
        · have := (hlt2 _ e).1; omega
      · have HS := hidd (lst_no (clsB f c) k (by simp [clsB, h1]))
        go_wp2
        refine ⟨⟨k + 1, by omega, rfl, ?_, Q, hb⟩, by simp [intOf]; omega⟩
        rw [HS.out]; exact hown
    · have hk2 : k = 256 := by omega
      subst hk2
      obtain ⟨A, cc, hu, hB⟩ := Bts.of_own hown (lst_byte _)
      subst hu
      have hlen : (lstB (clsB f c) 256).length ≤ 1000000 := by omega
      go_wp2_with fail
      refine (of_any A cc _ _ hB hlen).mono ?_
      rintro e w3 ⟨rfl, hb3⟩
      have Q3 := Q.below hb3 Q.lt
      have cf := Q3.thawed
      obtain ⟨c0, c1, c2, c3⟩ := Q3.cells
      have e := hidd (set_same (lst_has (clsB f c)))
      have hbb := hb.trans (hb3.mono hb.size)
      go_wp2
      refine ret_set Try.results14 rfl (Q3.fill (inB (lstB (clsB f c) 256))) rfl ⟨congrArg Ending.returned e.out, ?_⟩
      exact (((hbb.setCell (by simp) _).setCell (by simp) _).setCell (by simp) _).setCell (by simp) _

end Go.Proofs.Ytlfbjnmehdifeaa
