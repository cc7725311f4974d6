/- split as it landed: First, from the greatest byte down. -/
import Derived.Test.YtlfbjnmehdifeaaYa
namespace Go.Proofs.Ytlfbjnmehdifeaa
open Go.RowKit

/-- The least of the bytes from b on that are of class k, 0 if none is. -/
def lowF (f : Nat → Int) (k : Int) (b : Nat) : Int := (((List.range' b (256 - b)).find? fun x => decide (f x = k)).getD 0 : Nat)
theorem low_end (f : Nat → Int) (k : Int) : lowF f k 256 = 0 := by simp [lowF]
theorem low_step (f : Nat → Int) (k : Int) (b : Nat) (hb : b < 256) : lowF f k b = if f b = k then (b : Int) else lowF f k (b + 1) := by
  unfold lowF
  rw [show 256 - b = (256 - (b + 1)) + 1 from by omega, List.range'_succ, List.find?_cons]
  by_cases h : f b = k <;> simp [h]
theorem low_least (f : Nat → Int) (k : Int) : lowF f k 0 = leastB f k := by
  unfold lowF leastB lstB
  rw [← List.range_eq_range', show (fun x => decide (f x = k)) = clsB f k from rfl, ← List.head?_filter]
  cases h : (List.range 256).filter (clsB f k) <;> simp

theorem made_bytes (n : Nat) : madeCells (Value.int .u8 0).cells (n * 1) = fnC n (fun _ => .int .u8 0) := by
  apply Array.ext_getElem?
  intro i
  by_cases hi : i < n
  · rw [fnC_at _ _ _ hi]
    simp [madeCells, Value.cells, hi, Nat.mod_one]
  · rw [Array.getElem?_eq_none (by rw [size_madeCells]; omega), Array.getElem?_eq_none (by rw [fnC_size]; omega)]

theorem make_bytes (n : Nat) (hn : n ≤ 1000000) (w : World) : (Instr.makeSlice 35 (.int .i64 (n : Int)) (.int .i64 (n : Int))).run Try.prog w =
    .ok (.slice (some ⟨w.heap.size, 0, none⟩) n n) (w.alloc (.cells (fnC n (fun _ => .int .u8 0)) 5)) := by
  obtain ⟨i0, hi0, hz0, hz1, hz2⟩ := info_parts byte_info
  have := run_make (P := Try.prog) w 35 5 i0 _ Try.underlying35 hi0 hz0 .i64 .i64 (n : Int) (n : Int) (by omega) (Int.le_refl _) (by rw [hz2]; omega) (by omega)
  rw [this, hz1, Int.toNat_natCast, made_bytes]

theorem bts_row {w : World} {g n : Nat} {h : Nat → Int} {xs : List Int} (r : RowF w g 5 n (fun i => .int .u8 (h i))) (e : xs.length = n) (hx : ∀ i, i < n → xs.getD i 0 = h i) (hb : ∀ x ∈ xs, 0 ≤ x ∧ x ≤ 255) : Bts w w.heap.size (some ⟨g, 0, none⟩) xs :=
  ⟨hb, fun _ => ⟨g, 0, rfl, r.lt, fun i hi => by rw [Nat.zero_add, r.at_ i (by omega), hx i (by omega)]⟩⟩

theorem frst_at (f : Nat → Int) (n i : Nat) (h : i < n) : (frstL f n).getD i 0 = leastB f (i : Int) := by
  unfold frstL
  rw [List.getD_eq_getElem?_getD, List.getElem?_map]
  simp [h]
theorem frstL_bytes (f : Nat → Int) (n : Nat) : ∀ x ∈ frstL f n, 0 ≤ x ∧ x ≤ 255 := by
  intro x hx
  unfold frstL at hx
  obtain ⟨c, _, rfl⟩ := List.mem_map.1 hx
  exact least_byte f c

set_option maxRecDepth 100000 in
set_option maxHeartbeats 1000000 in
theorem first_any : FirstC := by
  intro f m w hf
  have R0 := RowS.new w f m
  have hmn := R0.many
  go_enter Try.func16, Try.ntmps16
  by_cases h1 : m < 1
  · have e : frstM f m = [] := by unfold frstM; rw [if_neg (by omega)]
    rw [e]
    go_wp2
    go_ret
    first
      | exact ⟨_, _, rfl, ⟨by simp, fun h => absurd rfl h⟩, (Below.refl _ _).alloc (Nat.le_refl _) _⟩
      | exact ⟨_, ⟨_, rfl⟩, ⟨by simp, fun h => absurd rfl h⟩, (Below.refl _ _).alloc (Nat.le_refl _) _⟩
  by_cases h2 : m > 256
  · have e : frstM f m = [] := by unfold frstM; rw [if_neg (by omega)]
    rw [e]
    go_wp2
    go_ret
    first
      | exact ⟨_, _, rfl, ⟨by simp, fun h => absurd rfl h⟩, (Below.refl _ _).alloc (Nat.le_refl _) _⟩
      | exact ⟨_, ⟨_, rfl⟩, ⟨by simp, fun h => absurd rfl h⟩, (Below.refl _ _).alloc (Nat.le_refl _) _⟩
  have e : frstM f m = frstL f m.toNat := by unfold frstM; rw [if_pos (by omega)]
  rw [e, frst_len]
  clear e
  obtain ⟨n, rfl⟩ : ∃ n : Nat, m = n := ⟨m.toNat, by omega⟩
  rw [Int.toNat_natCast]
  have hmk := make_bytes n (by omega)
  go_wp2
  go_loopw [4] (fun i wr => ∃ b : Nat, b ≤ 256 ∧ i = .int .i64 ((b : Int) - 1) ∧ RowF wr (w.heap.size + 1) 5 n (fun k => .int .u8 (lowF f (k : Int) b)) ∧ RowS wr w.heap.size f n ∧ Below w.heap.size w wr) (fun i _ => ((intOf i) + 1).toNat)
  case atStart =>
    have R1 := RowF.new (w.alloc (.cells (spC f n) 26)) 5 n (fun _ => .int .u8 0)
    rw [World.size_alloc] at R1
    exact ⟨256, Nat.le_refl _, rfl, R1.congr (fun i _ => by rw [low_end]), R0.alloc _, ((Below.refl _ _).alloc (Nat.le_refl _) _).alloc (by simp) _⟩
  case round =>
    obtain ⟨b, hb0, rfl, Q, R, hb⟩ := hrel
    have hmr := R.many
    by_cases hlt : 0 < b
    · obtain ⟨d, rfl⟩ : ∃ d, b = d + 1 := ⟨b - 1, by omega⟩
      have hfk := hf d (by omega)
      have hat := R.at_ d (by omega)
      have hd : ((d + 1 : Nat) : Int) - 1 = d := by omega
      rw [hd]
      clear hd
      have HL : Hid (∀ i : Nat, lowF f (i : Int) d = if f d = (i : Int) then (d : Int) else lowF f (i : Int) (d + 1)) := fun i => low_step f i d (by omega)
      have hz := Q.lt
      have hth := Q.thawed
      by_cases h3 : f d < n
      · obtain ⟨j, hj⟩ : ∃ j : Nat, f d = j := ⟨(f d).toNat, by omega⟩
        rw [hj] at hat h3
        have hcj := Q.at_ j (by omega)
        go_wp2
        refine ⟨⟨d, by omega, by simp, (Q.put j (.int .u8 (d : Int))).congr (fun i _ => ?_), R.far (by simp) _, hb.setCell (by simp) _⟩, by simp [intOf]⟩
        rw [HL.out i, hj]
        by_cases hij : i = j
        · subst hij; simp
        · rw [if_neg hij, if_neg (by omega)]
      · go_wp2
        refine ⟨⟨d, by omega, by simp, Q.congr (fun i hi => ?_), R, hb⟩, by simp [intOf]⟩
        rw [HL.out i, if_neg (by omega)]
    · have hb2 : b = 0 := by omega
      subst hb2
      have HB := hidd (bts_row (xs := frstL f n) Q (frst_len f n) (fun i hi => by rw [frst_at f n i hi, low_least]) (frstL_bytes f n))
      go_wp2
      go_ret
      exact ⟨_, _, rfl, HB.out, hb⟩

end Go.Proofs.Ytlfbjnmehdifeaa
