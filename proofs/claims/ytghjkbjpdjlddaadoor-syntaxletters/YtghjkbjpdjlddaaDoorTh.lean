/- The landed parser: numbers of bounds. -/
import Derived.Test.YtghjkbjpdjlddaaDoorTg
import Derived.Lib.AtoiAll
namespace Go.Proofs.YtghjkbjpdjlddaaDoor.Sy
open Go.RowKit
set_option maxRecDepth 100000

theorem pu_not : ∀ (l : List UInt8) (acc : Nat), (∀ c ∈ l, digitB c.toNat = true) → Lib.parseUint10 acc l = .range ∨ ∃ u, Lib.parseUint10 acc l = .ok u
  | [], acc, _ => .inr ⟨acc, rfl⟩
  | c :: r, acc, h => by
    have h1 := h c (by simp)
    unfold digitB at h1
    simp at h1
    rw [Lib.parseUint10, if_pos h1]
    split
    · exact .inl rfl
    · split
      · exact .inl rfl
      · exact pu_not r _ (fun x hx => h x (by simp [hx]))
theorem pu_ok : ∀ (l : List UInt8) (acc : Nat), (∀ c ∈ l, digitB c.toNat = true) → (acc + 1) * 10 ^ l.length ≤ 1000000000000 → Lib.parseUint10 acc l = .ok (l.foldl (fun v c => v * 10 + (c.toNat - 48)) acc) ∧ l.foldl (fun v c => v * 10 + (c.toNat - 48)) acc < 1000000000000
  | [], acc, _, hl => by
    simp [Lib.parseUint10] at hl ⊢
    omega
  | c :: r, acc, h, hl => by
    have h1 := h c (by simp)
    unfold digitB at h1
    simp at h1
    have h2 : (acc * 10 + (c.toNat - 48) + 1) * 10 ^ r.length ≤ 1000000000000 := by
      rw [List.length_cons, Nat.pow_succ] at hl
      refine Nat.le_trans (Nat.mul_le_mul_right _ (show acc * 10 + (c.toNat - 48) + 1 ≤ (acc + 1) * 10 from by omega)) ?_
      rw [Nat.mul_assoc, Nat.mul_comm 10]
      exact hl
    have h3 : acc * 10 + (c.toNat - 48) + 1 ≤ 1000000000000 := Nat.le_trans (Nat.le_mul_of_pos_right _ (Nat.pow_pos (by decide))) h2
    rw [Lib.parseUint10, if_pos h1, if_neg (by omega), if_neg (by omega), List.foldl_cons]
    exact pu_ok r _ (fun x hx => h x (by simp [hx])) h2
theorem atoi_digits {t : ByteArray} (h : ∀ c ∈ bs t, digitB c = true) (h1 : 1 ≤ t.size) :
    ((∃ v, Lib.atoiAll t.data.toList = .ok v) ∨ Lib.atoiAll t.data.toList = .range) ∧ (t.size ≤ 6 → Lib.atoiAll t.data.toList = .ok ((value (bs t) : Nat) : Int)) := by
  have hl : t.size = t.data.toList.length := rfl
  have hv : value (bs t) = t.data.toList.foldl (fun v c => v * 10 + (c.toNat - 48)) 0 := by unfold value bs; rw [List.foldl_map]
  have hd : ∀ c ∈ t.data.toList, digitB c.toNat = true := fun c hc => h c.toNat (by unfold bs; exact List.mem_map.2 ⟨c, hc, rfl⟩)
  rw [hl] at h1 ⊢
  rw [hv]
  generalize t.data.toList = l at *
  cases l with
  | nil => simp at h1
  | cons c r =>
    have hc := hd c (by simp)
    unfold digitB at hc
    simp at hc
    have e : (if c.toNat = 43 ∨ c.toNat = 45 then r else c :: r) = c :: r := if_neg (by omega)
    have hp : Lib.parseMag (c :: r) = Lib.parseUint10 0 (c :: r) := by unfold Lib.parseMag; rw [if_neg (by simp)]
    have hn : ¬ c.toNat = 45 := by omega
    constructor
    · unfold Lib.atoiAll
      simp only [e, hp]
      rcases pu_not (c :: r) 0 hd with hq | ⟨u, hq⟩
      · rw [hq]
        exact .inr rfl
      · rw [hq]
        simp only [hn, not_false_eq_true, true_and, false_and, if_false]
        split
        · exact .inr rfl
        · exact .inl ⟨_, rfl⟩
    · intro h6
      obtain ⟨h7, h8⟩ := pu_ok (c :: r) 0 hd (by
        have : 10 ^ (c :: r).length ≤ 10 ^ 6 := Nat.pow_le_pow_right (by decide) h6
        have h9 : (10 : Nat) ^ 6 = 1000000 := by decide
        omega)
      unfold Lib.atoiAll
      simp only [e, hp]
      rw [h7]
      simp only [hn, not_false_eq_true, true_and, false_and, if_false]
      rw [if_neg (by omega)]

/-- A number of bounds by its digits, if it is one. -/
def numV (l : List Nat) : Option Nat := if 6 < l.length ∨ (l.getD 0 0 = 48 ∧ 1 < l.length) then none else some (value l)
/-- The same as the landed code tells it. -/
def numI (l : List Nat) : Int := match numV l with | some n => (n : Int) | none => 4097
theorem cut_len {s : List Nat} {i j : Nat} (hj : j ≤ s.length) : (cut s i j).length = j - i := by
  unfold cut
  rw [List.length_take, List.length_drop]
  omega
theorem number_cut {s : List Nat} {i j : Nat} (hij : i < j) (hj : j ≤ s.length) : number s i j = numV (cut s i j) := by
  unfold number numV
  rw [cut_len hj]
  have : (cut s i j).getD 0 0 = at_ s i := by
    unfold cut at_
    rw [List.getD_eq_getElem?_getD, List.getElem?_take, if_pos (by omega), List.getElem?_drop, Nat.add_zero, List.getD_eq_getElem?_getD]
  rw [this]

theorem atoi_ok (t : ByteArray) (n : Int) (w : World) (hs : t.size ≤ 100000) (h : Lib.atoiAll t.data.toList = .ok n) :
    Calls Tryd.prog 123 #[.string t] w fun e w' => e = .returned (.tuple #[.int .i64 n, .nilIface]) ∧ Below w.heap.size w w' := by
  refine (Tryd.strconv_Atoi_ok t (by omega) n h w).mono ?_
  rintro e w' ⟨h1, h2⟩
  refine ⟨h1, ?_⟩
  rcases h2 with rfl | ⟨t2, rfl⟩
  · exact Below.refl _ _
  · exact Lib.bytesWorld_below w 5 t2
theorem atoi_range (t : ByteArray) (w : World) (hE : EV w) (hs : t.size ≤ 100000) (h : Lib.atoiAll t.data.toList = .range) :
    Calls Tryd.prog 123 #[.string t] w fun e w' => ∃ n N, e = .returned (.tuple #[.int .i64 n, .iface 143 (.pointer (some ⟨N, 0, none⟩))]) ∧ Below w.heap.size w w' := by
  obtain ⟨ev, h1, h2⟩ := hE
  refine (Tryd.strconv_Atoi_range t (by omega) h ev w h1 h2).mono ?_
  rintro e w' ⟨N, h3, -, -, h4⟩
  exact ⟨_, N, h3, h4⟩

set_option maxHeartbeats 1000000 in
theorem pnumber_any (t : ByteArray) (w : World) (hE : EV w) (hd : ∀ c ∈ bs t, digitB c = true) (h1 : 1 ≤ t.size) (hs : t.size ≤ 100000) :
    Calls Tryd.prog 110 #[.string t] w fun e w' => e = .returned (.int .i64 (numI (bs t))) ∧ Below w.heap.size w w' := by
  obtain ⟨ha, hb⟩ := atoi_digits hd h1
  have hbl := bs_len t
  have h0 : (bs t).getD 0 0 = t[0].toNat := at_bs t 0 h1
  clear hd
  have hi0 : (0 : Int) < (t.size : Int) := by omega
  by_cases h6 : 6 < t.size
  · have HV : Hid (numI (bs t) = 4097) := by show _ = _; unfold numI numV; rw [if_pos (.inl (by rw [hbl]; exact h6))]
    have h6i : decide ((6 : Int) < (t.size : Int)) = true := decide_eq_true (by omega)
    clear h0 hb hbl
    rcases ha with ⟨n, ha⟩ | ha
    · go_enter Tryd.func110, Tryd.ntmps110
      go_wp2_with fail
      refine (atoi_ok t n _ hs ha).mono ?_
      rintro e w1 ⟨rfl, b1⟩
      clear ha
      go_wp2
      go_ret
      exact ⟨by rw [HV.out]; rfl, b1⟩
    · go_enter Tryd.func110, Tryd.ntmps110
      go_wp2_with fail
      refine (atoi_range t _ hE hs ha).mono ?_
      rintro e w1 ⟨n, N, rfl, b1⟩
      clear ha
      go_wp2
      go_ret
      exact ⟨by rw [HV.out]; rfl, b1⟩
  · have h6i : decide ((6 : Int) < (t.size : Int)) = false := decide_eq_false (by omega)
    have hb := hb (by omega)
    clear ha
    by_cases h2 : 1 < t.size
    · have h2i : decide ((1 : Int) < (t.size : Int)) = true := decide_eq_true (by omega)
      by_cases h48 : t[0].toNat = 48
      · have HV : Hid (numI (bs t) = 4097) := by show _ = _; unfold numI numV; rw [if_pos (.inr ⟨by rw [h0]; exact h48, by rw [hbl]; exact h2⟩)]
        have h48i : (((t[0].toNat : Nat) : Int) == 48) = true := by rw [h48]; rfl
        clear h0 hbl h48
        go_enter Tryd.func110, Tryd.ntmps110
        go_wp2_with fail
        refine (atoi_ok t _ _ hs hb).mono ?_
        rintro e w1 ⟨rfl, b1⟩
        clear hb
        go_wp2
        go_ret
        exact ⟨by rw [HV.out]; rfl, b1⟩
      · have HV : Hid (numI (bs t) = value (bs t)) := by show _ = _; unfold numI numV; rw [if_neg (by rw [hbl, h0]; omega)]
        have h48i : (((t[0].toNat : Nat) : Int) == 48) = false := by simp; omega
        clear h0 hbl h48
        go_enter Tryd.func110, Tryd.ntmps110
        go_wp2_with fail
        refine (atoi_ok t _ _ hs hb).mono ?_
        rintro e w1 ⟨rfl, b1⟩
        clear hb
        go_wp2
        go_ret
        exact ⟨by rw [HV.out]; rfl, b1⟩
    · have h2i : decide ((1 : Int) < (t.size : Int)) = false := decide_eq_false (by omega)
      have HV : Hid (numI (bs t) = value (bs t)) := by show _ = _; unfold numI numV; rw [if_neg (by rw [hbl]; omega)]
      clear h0 hbl
      go_enter Tryd.func110, Tryd.ntmps110
      go_wp2_with fail
      refine (atoi_ok t _ _ hs hb).mono ?_
      rintro e w1 ⟨rfl, b1⟩
      clear hb
      go_wp2
      go_ret
      exact ⟨by rw [HV.out]; rfl, b1⟩

/-- May something be repeated from lo to hi times? -/
def bndB (lo hi : Int) : Bool := decide (0 ≤ lo) && decide (lo ≤ 4096) && (hi == -1 || (decide (1 ≤ hi) && decide (lo ≤ hi) && decide (hi ≤ 4096)))
set_option maxHeartbeats 1000000 in
theorem arebnd_any (lo hi : Int) (w : World) : Calls Tryd.prog 58 #[.int .i64 lo, .int .i64 hi] w fun e w' => e = .returned (.bool (bndB lo hi)) ∧ w' = w := by
  by_cases h1 : lo < 0
  · skip
    have HV : Hid (bndB lo hi = false) := by show _ = _; unfold bndB; simp; omega
    go_enter Tryd.func58, Tryd.ntmps58
    go_wp2
    go_ret
    exact ⟨by rw [HV.out]; rfl, rfl⟩
  · by_cases h2 : 4096 < lo
    · have h2i : decide ((4096 : Int) < lo) = true := decide_eq_true h2
      have HV : Hid (bndB lo hi = false) := by show _ = _; unfold bndB; simp; omega
      go_enter Tryd.func58, Tryd.ntmps58
      go_wp2
      go_ret
      exact ⟨by rw [HV.out]; rfl, rfl⟩
    · have h2i : decide ((4096 : Int) < lo) = false := decide_eq_false h2
      by_cases h3 : hi = -1
      · subst h3
        have HV : Hid (bndB lo (-1) = true) := by show _ = _; unfold bndB; simp; omega
        go_enter Tryd.func58, Tryd.ntmps58
        go_wp2
        go_ret
        exact ⟨by rw [HV.out]; rfl, rfl⟩
      · have h3i : (hi == -1) = false := beq_eq_false_iff_ne.2 h3
        by_cases h4 : 1 ≤ hi
        · by_cases h5 : lo ≤ hi
          · by_cases h6 : hi ≤ 4096
            · have h6i : decide (hi ≤ 4096) = true := decide_eq_true h6
              have HV : Hid (bndB lo hi = true) := by show _ = _; unfold bndB; simp; omega
              go_enter Tryd.func58, Tryd.ntmps58
              go_wp2
              go_ret
              exact ⟨by rw [HV.out]; rfl, rfl⟩
            · have h6i : decide (hi ≤ 4096) = false := decide_eq_false h6
              have HV : Hid (bndB lo hi = false) := by show _ = _; unfold bndB; simp; omega
              go_enter Tryd.func58, Tryd.ntmps58
              go_wp2
              go_ret
              exact ⟨by rw [HV.out]; rfl, rfl⟩
          · skip
            have HV : Hid (bndB lo hi = false) := by show _ = _; unfold bndB; simp; omega
            go_enter Tryd.func58, Tryd.ntmps58
            go_wp2
            go_ret
            exact ⟨by rw [HV.out]; rfl, rfl⟩
        · skip
          have HV : Hid (bndB lo hi = false) := by show _ = _; unfold bndB; simp; omega
          go_enter Tryd.func58, Tryd.ntmps58
          go_wp2
          go_ret
          exact ⟨by rw [HV.out]; rfl, rfl⟩

end Go.Proofs.YtghjkbjpdjlddaaDoor.Sy
