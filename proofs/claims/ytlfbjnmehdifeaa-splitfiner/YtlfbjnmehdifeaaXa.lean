/- The reference of split, first walks: a Split as a row of cells that the walk does not look into. -/
import Derived.Test.YtlfbjnmehdifeaaWg
namespace Go.Proofs.Ytlfbjnmehdifeaa
open Go.RowKit

/-- The cells of a Split: the classes f, the number m. -/
def spC (f : Nat → Int) (m : Int) : Array Value := (((List.range 256).map fun i => Value.int .u8 (f i)) ++ [Value.int .i64 m]).toArray
theorem spC_size (f : Nat → Int) (m : Int) : (spC f m).size = 257 := by simp [spC]
theorem spC_at (f : Nat → Int) (m : Int) (k : Nat) (h : k < 256) : (spC f m)[k]? = some (.int .u8 (f k)) := by
  unfold spC
  rw [List.getElem?_toArray, List.getElem?_append_left (by simpa using h)]
  simp [h]
theorem spC_many (f : Nat → Int) (m : Int) : (spC f m)[256]? = some (.int .i64 m) := by
  simp [spC]

/-- Block g holds just this Split. -/
def RowS (w : World) (g : Nat) (f : Nat → Int) (m : Int) : Prop := w.heap[g]? = some (.cells (spC f m) 26 (0, 0))
section
variable {w w' : World} {g : Nat} {f : Nat → Int} {m : Int}
theorem RowS.lt (h : RowS w g f m) : g < w.heap.size := by
  unfold RowS at h
  rcases Nat.lt_or_ge g w.heap.size with hl | hg
  · exact hl
  · rw [Array.getElem?_eq_none hg] at h; cases h
theorem RowS.at_ (h : RowS w g f m) (k : Nat) (hk : k < 256) : w.cell? ⟨g, k, none⟩ = some (.int .u8 (f k)) := by
  unfold RowS at h
  simp [World.cell?, h, spC_at f m k hk]
theorem RowS.many (h : RowS w g f m) : w.cell? ⟨g, 256, none⟩ = some (.int .i64 m) := by
  unfold RowS at h
  simp [World.cell?, h, spC_many]
theorem RowS.below {B : Nat} (h : RowS w g f m) (hb : Below B w w') (hg : g < B) : RowS w' g f m := (hb.block g hg).trans h
theorem RowS.new (w : World) (f : Nat → Int) (m : Int) : RowS (w.alloc (.cells (spC f m) 26)) w.heap.size f m := heap_new w _
theorem RowS.alloc (h : RowS w g f m) (o : Obj) : RowS (w.alloc o) g f m := (Below.heap_alloc w o g h.lt).trans h
theorem RowS.grown {row : Option Nat} (h : RowS w g f m) (hg : w.grownBy w' row) (hr : some g ≠ row) : RowS w' g f m := (hg.block g h.lt hr).trans h
end

/-- The round's count of classes so far, or none if a class came too early. -/
def rightK (f : Nat → Int) : Nat → Option Int
  | 0 => some 0
  | n + 1 => match rightK f n with
    | none => none
    | some k => if f n > k then none else if f n = k then some (k + 1) else some k
theorem rightK_le (f : Nat → Int) (n : Nat) (k : Int) (h : rightK f n = some k) : 0 ≤ k ∧ k ≤ n := by
  induction n generalizing k with
  | zero => simp [rightK] at h; omega
  | succ n ih =>
    unfold rightK at h
    split at h
    · cases h
    · rename_i k' hk
      have := ih k' hk
      split at h
      · cases h
      · split at h <;> (cases h; omega)

theorem rightK_none (f : Nat → Int) (n d : Nat) (h : rightK f n = none) : rightK f (n + d) = none := by
  induction d with
  | zero => exact h
  | succ d ih => rw [← Nat.add_assoc]; unfold rightK; rw [ih]
theorem rightK_early (f : Nat → Int) (k : Nat) (c m : Int) (hk : k < 256) (hc : rightK f k = some c) (h : f k > c) : decide (rightK f 256 = some m) = false := by
  have h1 : rightK f (k + 1) = none := by unfold rightK; rw [hc]; simp [h]
  have h2 := rightK_none f (k + 1) (256 - (k + 1)) h1
  rw [show k + 1 + (256 - (k + 1)) = 256 from by omega] at h2
  rw [h2]; simp

set_option maxRecDepth 100000 in
set_option maxHeartbeats 1000000 in
theorem rright_any (f : Nat → Int) (m : Int) (w : World) (hf : ∀ k, k < 256 → 0 ≤ f k ∧ f k ≤ 255) :
    Calls Try.prog 19 #[.agg (spC f m)] w fun e w' => e = .returned (.bool (decide (rightK f 256 = some m))) ∧ Below w.heap.size w w' := by
  go_enter Try.func19, Try.ntmps19
  go_wp2
  go_loopw [3, 4] (fun mn i wr => ∃ (k : Nat) (c : Int), k ≤ 256 ∧ i = .int .i64 k ∧ mn = .int .i64 c ∧ rightK f k = some c ∧ RowS wr w.heap.size f m ∧ Below w.heap.size w wr) (fun _ i _ => 256 - (intOf i).toNat)
  case atStart => exact ⟨0, 0, Nat.zero_le _, rfl, rfl, rfl, RowS.new w f m, (Below.refl _ _).alloc (Nat.le_refl _) _⟩
  case round =>
    obtain ⟨k, c, hk0, rfl, rfl, hc, R, hb⟩ := hrel
    have hcb := rightK_le f k c hc
    by_cases hlt : k < 256
    · have hfk := hf k hlt
      have hat := R.at_ k hlt
      by_cases h1 : f k > c
      · have HS := hidd (rightK_early f k c m hlt hc h1)
        go_wp2
        go_ret
        exact ⟨by rw [HS.out]; rfl, hb⟩
      · by_cases h2 : f k = c
        · have HS : Hid (rightK f (k + 1) = some (c + 1)) := by show rightK f (k + 1) = some (c + 1); unfold rightK; rw [hc]; simp [h2]
          go_wp2
          exact ⟨⟨k + 1, c + 1, by omega, rfl, rfl, HS.out, R, hb⟩, by simp [intOf]; omega⟩
        · have HS : Hid (rightK f (k + 1) = some c) := by show rightK f (k + 1) = some c; unfold rightK; rw [hc]; simp [h1, h2]
          go_wp2
          exact ⟨⟨k + 1, c, by omega, rfl, rfl, HS.out, R, hb⟩, by simp [intOf]; omega⟩
    · have hk2 : k = 256 := by omega
      have hmn := R.many
      subst hk2
      have HS := hidd hc
      clear hc
      go_wp2
      go_ret
      refine ⟨?_, hb⟩
      rw [HS.out]
      show Ending.returned (.bool (decide (c = m))) = _
      simp only [Option.some.injEq]

end Go.Proofs.Ytlfbjnmehdifeaa
