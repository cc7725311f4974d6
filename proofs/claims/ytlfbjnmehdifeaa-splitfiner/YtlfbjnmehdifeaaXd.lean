/- The reference's First: the least byte of each class. -/
import Derived.Test.YtlfbjnmehdifeaaXc
namespace Go.Proofs.Ytlfbjnmehdifeaa
open Go.RowKit

theorem split_info (f : Nat → Int) (m : Int) : (Try.prog.info? 26).map (·.size) = some (spC f m).size := by
  rw [spC_size]; kernel_rfl

/-- The least byte of the class c, 0 of one that has none. -/
def leastB (f : Nat → Int) (c : Int) : Int := (lstB (clsB f c) 256).getD 0 0
/-- What First tells. -/
def frstL (f : Nat → Int) (n : Nat) : List Int := (List.range n).map fun c : Nat => leastB f (c : Int)
theorem frst_len (f : Nat → Int) (n : Nat) : (frstL f n).length = n := by simp [frstL]
theorem frst_snoc (f : Nat → Int) (n : Nat) : frstL f (n + 1) = frstL f n ++ [leastB f (n : Int)] := by
  simp [frstL, List.range_succ]
theorem least_byte (f : Nat → Int) (c : Int) : 0 ≤ leastB f c ∧ leastB f c ≤ 255 := by
  unfold leastB
  cases h : lstB (clsB f c) 256 with
  | nil => simp
  | cons x r =>
    have := lst_byte (clsB f c) x (by rw [h]; simp)
    simpa using this
def frstM (f : Nat → Int) (m : Int) : List Int := if 1 ≤ m ∧ m ≤ 256 then frstL f m.toNat else []

set_option maxRecDepth 100000 in
set_option maxHeartbeats 1000000 in
theorem rfirst_any (f : Nat → Int) (m : Int) (w : World) (hf : ∀ k, k < 256 → 0 ≤ f k ∧ f k ≤ 255) :
    Calls Try.prog 17 #[.agg (spC f m)] w fun e w' => ∃ v, e = .returned v ∧ w'.ownsRow w.heap.size 5 1 v (frstM f m).length (u8s (frstM f m)) ∧ Below w.heap.size w w' := by
  obtain ⟨i0, hi0, hz0, hz1, hz2⟩ := info_parts byte_info
  have R0 := RowS.new w f m
  have hmn := R0.many
  go_enter Try.func17, Try.ntmps17
  by_cases h1 : m < 1
  · go_wp2
    go_ret
    refine ⟨_, rfl, ?_, (Below.refl _ _).alloc (Nat.le_refl _) _⟩
    have e : frstM f m = [] := by unfold frstM; rw [if_neg (by omega)]
    rw [e]
    exact World.ownsRow_nil _ _ _ _
  by_cases h2 : m > 256
  · go_wp2
    go_ret
    refine ⟨_, rfl, ?_, (Below.refl _ _).alloc (Nat.le_refl _) _⟩
    have e : frstM f m = [] := by unfold frstM; rw [if_neg (by omega)]
    rw [e]
    exact World.ownsRow_nil _ _ _ _
  have e : frstM f m = frstL f m.toNat := by unfold frstM; rw [if_pos (by omega)]
  rw [e, frst_len]
  clear e
  obtain ⟨n, rfl⟩ : ∃ n : Nat, m = n := ⟨m.toNat, by omega⟩
  rw [Int.toNat_natCast]
  go_wp2
  go_loopw [3, 4] (fun l i wr => ∃ k : Nat, k ≤ n ∧ i = .int .i64 k ∧ wr.ownsRow (w.heap.size + 1) 5 1 l k (u8s (frstL f k)) ∧ RowS wr w.heap.size f n ∧ Below w.heap.size w wr) (fun _ i _ => n - (intOf i).toNat)
  case atStart => exact ⟨0, Nat.zero_le _, rfl, World.ownsRow_nil _ _ _ _, R0, (Below.refl _ _).alloc (Nat.le_refl _) _⟩
  case round =>
    obtain ⟨k, hk0, rfl, hown, R, hb⟩ := hrel
    have hmr := R.many
    by_cases hlt : k < n
    · go_wp2_with (refine wpList_load_row rfl 26 (.tmp 1) rfl w.heap.size rfl 26 (spC f n) (0, 0) _ R Try.underlying26 rfl (split_info f n) ?_)
      refine (rset_any f n k _ hf).mono ?_
      rintro e w1 ⟨rfl, hb1⟩
      have R1 := R.below hb1 R.lt
      have hown1 := own_below hown hb1 (Nat.le_refl _)
      have D1 := hb.trans (hb1.mono hb.size)
      clear hmr R hown hb hb1
      go_wp2_with fail
      refine (rlist_any (clsB f k) _).mono ?_
      rintro e w2 ⟨v2, rfl, ho2, hb2⟩
      have R2 := R1.below hb2 R1.lt
      have hown2 := own_below hown1 hb2 (Nat.le_refl _)
      have D2 := D1.trans (hb2.mono D1.size)
      clear R1 hown1 D1 hb2
      obtain ⟨A, cc, hu, hB⟩ := Bts.of_own ho2 (lst_byte _)
      subst hu
      have hn := lst_len (clsB f k) 256
      have HS := hidd (frst_snoc f k)
      have hz := R2.lt
      have hbs := D2.size
      cases hL : lstB (clsB f k) 256 with
      | nil =>
        have HL : Hid (leastB f k = 0) := by show leastB f k = 0; unfold leastB; rw [hL]; rfl
        rw [hL] at hB
        clear hL ho2 hn
        go_wp2_with (at_builtin; refine wpList_append_own _ rfl (.tmp 27) (.tmp 28) 35 rfl (w.heap.size + 1) 5 i0 (.int .u8 0) 1 1 Try.underlying35 hi0 hz0 hz1 hz2 rfl (by omega) _ _ _ rfl (hown2.alloc _) ⟨w2.heap.size, 0, none⟩ 1 1 [.int .u8 0] rfl rfl (cell_one_new _ _ _) (by simp [Value.oneCell']) (by simp only [maxLen]; omega) (by omega) (by simp; omega) ?_; intro v3 w3 hown3 hg3 _)
        change (w2.alloc _).grownBy w3 u3.ownBlock at hg3
        have hlt2 := hown2.lt
        refine ⟨⟨k + 1, by omega, rfl, ?_, (R2.alloc _).grown hg3 (fun e => ?_), (D2.alloc (by omega) _).grown hg3 (by simp; omega) (fun j e => ?_)⟩, by simp [intOf]; omega⟩
        · rw [HS.out, HL.out, ← u8s_snoc]; exact hown3
        · have := (hlt2 _ e.symm).1; omega
        · have := (hlt2 _ e).1; omega
      | cons x r =>
        have HL : Hid (leastB f k = x) := by show leastB f k = x; unfold leastB; rw [hL]; rfl
        rw [hL] at hB hn
        have hr : r.length ≤ 256 := by simp at hn; omega
        obtain ⟨g, off, rfl, hg, hx, _, _⟩ := hB.at_ (k := 0) (by simp)
        rw [Nat.add_zero, List.getD_cons_zero] at hx
        clear hL ho2 hn hB
        go_wp2_with (at_builtin; refine wpList_append_own _ rfl (.tmp 30) (.tmp 34) 35 rfl (w.heap.size + 1) 5 i0 (.int .u8 0) 1 1 Try.underlying35 hi0 hz0 hz1 hz2 rfl (by omega) _ _ _ rfl (hown2.alloc _) ⟨w2.heap.size, 0, none⟩ 1 1 [.int .u8 x] rfl rfl (cell_one_new _ _ _) (by simp [Value.oneCell']) (by simp only [maxLen]; omega) (by omega) (by simp; omega) ?_; intro v3 w3 hown3 hg3 _)
        change (w2.alloc _).grownBy w3 u3.ownBlock at hg3
        have hlt2 := hown2.lt
        refine ⟨⟨k + 1, by omega, rfl, ?_, (R2.alloc _).grown hg3 (fun e => ?_), (D2.alloc (by omega) _).grown hg3 (by simp; omega) (fun j e => ?_)⟩, by simp [intOf]; omega⟩
        · rw [HS.out, HL.out, ← u8s_snoc]; exact hown3
        · have := (hlt2 _ e.symm).1; omega
        · have := (hlt2 _ e).1; omega
    · have hk : k = n := by omega
      subst hk
      go_wp2
      go_ret
      exact ⟨_, rfl, own_base hown (by omega), hb⟩

end Go.Proofs.Ytlfbjnmehdifeaa
