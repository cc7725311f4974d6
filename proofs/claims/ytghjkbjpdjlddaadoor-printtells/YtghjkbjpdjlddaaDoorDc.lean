/- A byte, a repetition, as they stand in a pattern: the landed functions. -/
import Derived.Test.YtghjkbjpdjlddaaDoorDa
import Derived.Test.YtghjkbjpdjlddaaDoorDb
import Derived.Test.YtghjkbjpdjlddaaDoorM3
import Derived.Test.YtghjkbjpdjlddaaDoorM2
import Derived.Test.YtghjkbjpdjlddaaDoorShelf
namespace Go.Proofs.YtghjkbjpdjlddaaDoor.Sy
open Go.RowKit
set_option maxRecDepth 100000
set_option linter.unusedVariables false

/-- A text comes back, and memory is as it was. -/
def TxtR (t : List Nat) (w : World) (e : Ending) (w' : World) : Prop := ∃ b, e = .returned (.string b) ∧ bs b = t ∧ Below w.heap.size w w'
abbrev digitsA : ByteArray := { data := #[48, 49, 50, 51, 52, 53, 54, 55, 56, 57, 97, 98, 99, 100, 101, 102] }
theorem hex_at : ∀ n : Nat, n < 16 → (bs digitsA)[n]? = some (hexD n) := by decide
theorem hex_at2 (n : Nat) (h : n < 16) : at_ (bs digitsA) n = hexD n := by
  have := hex_at n h
  unfold at_
  rw [List.getD_eq_getElem?_getD, this]
  rfl
theorem bts_four (w : World) (a b c d : Int) (ha : 0 ≤ a ∧ a ≤ 255) (hb : 0 ≤ b ∧ b ≤ 255) (hc : 0 ≤ c ∧ c ≤ 255) (hd : 0 ≤ d ∧ d ≤ 255) : Bts (w.alloc (.cells #[.int .u8 a, .int .u8 b, .int .u8 c, .int .u8 d] 5)) (w.alloc (.cells #[.int .u8 a, .int .u8 b, .int .u8 c, .int .u8 d] 5)).heap.size (some ⟨w.heap.size, 0, none⟩) [a, b, c, d] := by
  refine ⟨fun x hx => ?_, fun _ => ⟨w.heap.size, 0, rfl, by simp, fun k hk => ?_⟩⟩
  · simp at hx
    rcases hx with rfl | rfl | rfl | rfl <;> assumption
  · rw [World.cell?_alloc_new]
    match k, hk with
    | 0, _ => rfl
    | 1, _ => rfl
    | 2, _ => rfl
    | 3, _ => rfl
    | k + 4, h => exact absurd h (by simp)
theorem bts_two (w : World) (a b : Int) (ha : 0 ≤ a ∧ a ≤ 255) (hb : 0 ≤ b ∧ b ≤ 255) : Bts (w.alloc (.cells #[.int .u8 a, .int .u8 b] 5)) (w.alloc (.cells #[.int .u8 a, .int .u8 b] 5)).heap.size (some ⟨w.heap.size, 0, none⟩) [a, b] := by
  refine ⟨fun x hx => ?_, fun _ => ⟨w.heap.size, 0, rfl, by simp, fun k hk => ?_⟩⟩
  · simp at hx
    rcases hx with rfl | rfl <;> assumption
  · rw [World.cell?_alloc_new]
    match k, hk with
    | 0, _ => rfl
    | 1, _ => rfl
    | k + 2, h => exact absurd h (by simp)
theorem phex_any (c : Nat) (hc : c ≤ 255) (w : World) : Calls Tryd.prog 25 #[.int .u8 (c : Int)] w fun e w' => TxtR [92, 120, hexD (c / 16), hexD (c % 16)] w e w' := by
  obtain ⟨q, hq⟩ : ∃ q, c / 16 = q := ⟨_, rfl⟩
  obtain ⟨r, hr⟩ : ∃ r, c % 16 = r := ⟨_, rfl⟩
  rw [hq, hr]
  have e1 : IntKind.u8.wrap ((c : Int) / 16) = (q : Int) := by rw [IntKind.wrap_u8]; omega
  have e2 : (c : Int) % 16 = (r : Int) := by omega
  have hq1 : (q : Int) < 16 := by omega
  have hr1 : (r : Int) < 16 := by omega
  have hq2 : q < ({ data := #[48, 49, 50, 51, 52, 53, 54, 55, 56, 57, 97, 98, 99, 100, 101, 102] } : ByteArray).size := by show q < 16; omega
  have hr2 : r < ({ data := #[48, 49, 50, 51, 52, 53, 54, 55, 56, 57, 97, 98, 99, 100, 101, 102] } : ByteArray).size := by show r < 16; omega
  obtain ⟨x, hx⟩ : ∃ x, (({ data := #[48, 49, 50, 51, 52, 53, 54, 55, 56, 57, 97, 98, 99, 100, 101, 102] } : ByteArray)[q]).toNat = x := ⟨_, rfl⟩
  obtain ⟨y, hy⟩ : ∃ y, (({ data := #[48, 49, 50, 51, 52, 53, 54, 55, 56, 57, 97, 98, 99, 100, 101, 102] } : ByteArray)[r]).toNat = y := ⟨_, rfl⟩
  have HX : Hid (x = hexD q ∧ x ≤ 255) := by
    have h1 : x = hexD q := by rw [← hx]; exact (at_bs digitsA q hq2).symm.trans (hex_at2 q hq2)
    exact ⟨h1, by rw [← hx]; have := (({ data := #[48, 49, 50, 51, 52, 53, 54, 55, 56, 57, 97, 98, 99, 100, 101, 102] } : ByteArray)[q]).toNat_lt; omega⟩
  have HY : Hid (y = hexD r ∧ y ≤ 255) := by
    have h1 : y = hexD r := by rw [← hy]; exact (at_bs digitsA r hr2).symm.trans (hex_at2 r hr2)
    exact ⟨h1, by rw [← hy]; have := (({ data := #[48, 49, 50, 51, 52, 53, 54, 55, 56, 57, 97, 98, 99, 100, 101, 102] } : ByteArray)[r]).toNat_lt; omega⟩
  have mixed := mixed_
  have hB : Bts (w.alloc (.cells #[.int .u8 92, .int .u8 120, .int .u8 (x : Int), .int .u8 (y : Int)] 5)).drew (w.alloc (.cells #[.int .u8 92, .int .u8 120, .int .u8 (x : Int), .int .u8 (y : Int)] 5)).drew.heap.size (some ⟨w.heap.size, 0, none⟩) [92, 120, (x : Int), (y : Int)] :=
    bts_four w 92 120 x y (by omega) (by omega) (by have := HX.out.2; omega) (by have := HY.out.2; omega)
  have hcv := str_bytes (some ⟨w.heap.size, 0, none⟩) 4 _ _ hB
  change (convert 22 9 (.slice (some ⟨w.heap.size, 0, none⟩) 4 4)).run Tryd.prog _ = _ at hcv
  have HB : Hid (bs (strOfNums [92, 120, (x : Int), (y : Int)]) = [92, 120, hexD q, hexD r]) := by
    show _ = _
    rw [bs_nums _ (fun z hz => hB.1 z hz), ← HX.out.1, ← HY.out.1]
    simp
  clear hB hq hr
  generalize strOfNums [92, 120, (x : Int), (y : Int)] = b at *
  go_enter Tryd.func25, Tryd.ntmps25
  go_wp2
  go_region
  all_goals (go_wp2; go_ret; exact ⟨b, rfl, HB.out, bel_drew ((Below.refl _ _).alloc (Nat.le_refl _) _)⟩)

abbrev marksA : ByteArray := { data := #[124, 42, 43, 63, 123, 125, 40, 41, 91, 93, 46, 92, 47, 36, 94, 34, 45] }
theorem pmarks_has : ∀ c : Nat, c < 256 → (bs marksA).contains c = (specialB c || c == 45) := by decide +kernel
theorem pmarks_idx {c : Nat} (h : c < 256) : decide (0 ≤ idx marksA c) = (specialB c || c == 45) := by
  have := idx_has marksA (UInt8.ofNat c)
  rw [UInt8.toNat_ofNat', Nat.mod_eq_of_lt (by omega)] at this
  rw [this, pmarks_has c h]
theorem pbyte_any (c : Nat) (hc : c ≤ 255) (w : World) : Calls Tryd.prog 13 #[.int .u8 (c : Int)] w fun e w' => TxtR (byteT c) w e w' := by
  by_cases h10 : c = 10
  · subst h10
    go_enter Tryd.func13, Tryd.ntmps13
    go_wp2
    go_ret
    exact ⟨_, rfl, by decide, Below.refl _ _⟩
  by_cases h9 : c = 9
  · subst h9
    go_enter Tryd.func13, Tryd.ntmps13
    go_wp2
    go_ret
    exact ⟨_, rfl, by decide, Below.refl _ _⟩
  by_cases h13 : c = 13
  · subst h13
    go_enter Tryd.func13, Tryd.ntmps13
    go_wp2
    go_ret
    exact ⟨_, rfl, by decide, Below.refl _ _⟩
  have i10 : ((c : Int) == 10) = false := by simp; omega
  have i9 : ((c : Int) == 9) = false := by simp; omega
  have i13 : ((c : Int) == 13) = false := by simp; omega
  have hT : byteT c = if c < 32 ∨ 126 < c then [92, 120, hexD (c / 16), hexD (c % 16)] else if specialB c || c == 45 then [92, c] else [c] := by
    unfold byteT
    rw [if_neg h10, if_neg h9, if_neg h13]
  have HT := hidd hT
  clear hT h10 h9 h13
  by_cases hx : c < 32 ∨ 126 < c
  · have HT2 : Hid (byteT c = [92, 120, hexD (c / 16), hexD (c % 16)]) := by show _ = _; rw [HT.out, if_pos hx]
    have hcall : Calls Tryd.prog 25 #[.int .u8 (c : Int)] w fun e w' => TxtR (byteT c) w e w' := by rw [HT2.out]; exact phex_any c hc w
    rcases Nat.lt_or_ge c 32 with h | h
    · have i32 : (c : Int) < 32 := by omega
      go_enter Tryd.func13, Tryd.ntmps13
      go_wp2_with fail
      refine hcall.mono ?_
      rintro e w1 ⟨b, rfl, hb, hbel⟩
      go_wp2
      go_ret
      exact ⟨b, rfl, hb, hbel⟩
    · have i32 : decide ((c : Int) < 32) = false := decide_eq_false (by omega)
      have i126 : (126 : Int) < (c : Int) := by omega
      go_enter Tryd.func13, Tryd.ntmps13
      go_wp2_with fail
      refine hcall.mono ?_
      rintro e w1 ⟨b, rfl, hb, hbel⟩
      go_wp2
      go_ret
      exact ⟨b, rfl, hb, hbel⟩
  · have i32 : decide ((c : Int) < 32) = false := decide_eq_false (by omega)
    have i126 : decide ((126 : Int) < (c : Int)) = false := decide_eq_false (by omega)
    have hm := pmarks_idx (c := c) (by omega)
    have hI := idx_any marksA c w
    cases hs : (specialB c || c == 45) with
    | true =>
      rw [hs] at hm
      have HT2 : Hid (byteT c = [92, c]) := by show _ = _; rw [HT.out, if_neg hx, if_pos hs]
      have hB := bts_two w 92 (c : Int) (by omega) (by omega)
      have hcv := str_bytes (some ⟨w.heap.size, 0, none⟩) 2 _ _ hB
      change (convert 22 9 (.slice (some ⟨w.heap.size, 0, none⟩) 2 2)).run Tryd.prog _ = _ at hcv
      have HB : Hid (bs (strOfNums [92, (c : Int)]) = byteT c) := by
        show _ = _
        rw [bs_nums _ (fun z hz => hB.1 z hz), HT2.out]
        simp
      clear hB HT hx hs HT2
      generalize strOfNums [92, (c : Int)] = b at *
      generalize idx marksA c = ix at *
      go_enter Tryd.func13, Tryd.ntmps13
      go_wp2_with fail
      refine hI.mono ?_
      rintro e w1 ⟨rfl, rfl⟩
      go_wp2
      go_ret
      exact ⟨b, rfl, HB.out, (Below.refl _ _).alloc (Nat.le_refl _) _⟩
    | false =>
      rw [hs] at hm
      have HT2 : Hid (byteT c = [c]) := by show _ = _; rw [HT.out, if_neg hx, if_neg (by rw [hs]; exact Bool.false_ne_true)]
      have hB := bts_one w (c : Int) (by omega) (by omega)
      have hcv := str_bytes (some ⟨w.heap.size, 0, none⟩) 1 _ _ hB
      change (convert 22 9 (.slice (some ⟨w.heap.size, 0, none⟩) 1 1)).run Tryd.prog _ = _ at hcv
      have HB : Hid (bs (strOfNums [(c : Int)]) = byteT c) := by
        show _ = _
        rw [bs_nums _ (fun z hz => hB.1 z hz), HT2.out]
        simp
      clear hB HT hx hs HT2
      generalize strOfNums [(c : Int)] = b at *
      generalize idx marksA c = ix at *
      go_enter Tryd.func13, Tryd.ntmps13
      go_wp2_with fail
      refine hI.mono ?_
      rintro e w1 ⟨rfl, rfl⟩
      go_wp2
      go_ret
      exact ⟨b, rfl, HB.out, (Below.refl _ _).alloc (Nat.le_refl _) _⟩
theorem enclosed_any (k p : Nat) (w : World) : Calls Tryd.prog 74 #[.int .u8 (k : Int), .int .u8 (p : Int)] w fun e w' => e = .returned (.bool (encB k p)) ∧ w' = w := by
  unfold encB
  by_cases h1 : k = 1
  · subst h1
    by_cases hp : p = 4
    · subst hp
      go_enter Tryd.func74, Tryd.ntmps74
      go_wp2
      go_ret
      exact ⟨rfl, rfl⟩
    · have i4 : ((p : Int) == 4) = false := by simp; omega
      have e4 : (p == 4) = false := by simp; omega
      rw [e4]
      clear hp e4
      go_enter Tryd.func74, Tryd.ntmps74
      go_wp2
      go_ret
      exact ⟨ret_bool (by simp [bne, i4]), rfl⟩
  by_cases h3 : k = 3
  · subst h3
    by_cases hp : p = 4
    · subst hp
      go_enter Tryd.func74, Tryd.ntmps74
      go_wp2
      go_ret
      exact ⟨rfl, rfl⟩
    · have i4 : ((p : Int) == 4) = false := by simp; omega
      have e4 : (p == 4) = false := by simp; omega
      rw [e4]
      clear hp e4
      go_enter Tryd.func74, Tryd.ntmps74
      go_wp2
      go_ret
      exact ⟨ret_bool (by simp [bne, i4]), rfl⟩
  have i1 : ((k : Int) == 1) = false := by simp; omega
  have i3 : ((k : Int) == 3) = false := by simp; omega
  have e1 : (k == 1) = false := by simp; omega
  have e3 : (k == 3) = false := by simp; omega
  rw [e1, e3]
  by_cases h4 : k = 4
  · subst h4
    clear e1 e3 h1 h3
    go_enter Tryd.func74, Tryd.ntmps74
    go_wp2
    go_ret
    exact ⟨rfl, rfl⟩
  · have i4 : ((k : Int) == 4) = false := by simp; omega
    have e4 : (k == 4) = false := by simp; omega
    rw [e4]
    clear e1 e3 h1 h3 h4 e4
    go_enter Tryd.func74, Tryd.ntmps74
    go_wp2
    go_ret
    exact ⟨rfl, rfl⟩

/-- The table of the powers of ten is as the library lays it. -/
def TV (w : World) : Prop := Lib.TabIs Tryd.prog w "internal/strconv.uint64pow10" .u64 Lib.pow10Tab
theorem gTV : Tryd.prog.globalNamed "internal/strconv.uint64pow10" = some 1 := by kernel_rfl
theorem TV.lt {w : World} (h : TV w) : 1 < w.heap.size := by
  unfold TV Lib.TabIs World.var? at h
  rw [gTV] at h
  simp only [Option.bind] at h
  rcases Nat.lt_or_ge 1 w.heap.size with q | q
  · exact q
  · rw [Array.getElem?_eq_none q] at h; cases h
theorem TV.kept {w w' : World} (h : TV w) (e : w'.heap[1]? = w.heap[1]?) : TV w' := by
  unfold TV Lib.TabIs World.var? at h ⊢
  rw [gTV] at h ⊢
  simp only [Option.bind] at h ⊢
  rw [e]
  exact h
theorem TV.below {w w' : World} (h : TV w) (hb : Below w.heap.size w w') : TV w' := h.kept (hb.block _ h.lt)
theorem dec_digs : ∀ u : Nat, (Lib.decDigits u).map (·.toNat) = digs u := by
  intro u
  induction u using Nat.strongRecOn with
  | _ u ih =>
    rw [Lib.decDigits, digs]
    by_cases h : u < 10
    · rw [dif_pos h, if_neg (by omega)]
      simp
      omega
    · rw [dif_neg h, if_pos (by omega), List.map_append, ih (u / 10) (by omega)]
      simp
      omega
theorem itoa_digs (u : Nat) : bs ⟨(Lib.itoa (u : Int)).toArray⟩ = digs u := by
  unfold bs
  rw [Lib.itoa_nonneg]
  exact dec_digs u
theorem bel_grow (w : World) (k : Nat) (os : Array Obj) : Below w.heap.size w (Go.Sort.grow (w.drewN k) os) :=
  ⟨rfl, rfl, rfl, by simp [Go.Sort.grow, World.drewN], fun j hj => by simp [Go.Sort.grow, World.drewN, Array.getElem?_append, hj]⟩
theorem itoa_any (u : Nat) (hu : u ≤ 1000000) (w : World) (hT : TV w) : Calls Tryd.prog 61 #[.int .i64 (u : Int)] w fun e w' => TxtR (digs u) w e w' := by
  refine (Tryd.strconv_Itoa (u : Int) (by omega) (by omega) w hT).mono ?_
  rintro e w' ⟨rfl, k, os, rfl⟩
  exact ⟨_, rfl, itoa_digs u, bel_grow w k os⟩

set_option maxHeartbeats 1000000 in
theorem rep_any (lo : Nat) (hi : Int) (h0 : lo ≤ 1000000) (h9 : lo ≤ 9999) (h1 : hi = -1 ∨ (0 ≤ hi ∧ hi ≤ 9999)) (w : World) (hT : TV w) : Calls Tryd.prog 42 #[.int .i64 (lo : Int), .int .i64 hi] w fun e w' => TxtR (timesT (lo : Int) hi) w e w' := by
  by_cases a1 : hi = -1
  · subst a1
    by_cases b0 : lo = 0
    · subst b0
      go_enter Tryd.func42, Tryd.ntmps42
      go_wp2_with fail
      refine (itoa_any 0 h0 w hT).mono ?_
      rintro e w1 ⟨b, rfl, hb, hbel⟩
      clear hb
      go_wp2
      go_ret
      exact ⟨_, rfl, by decide, hbel⟩
    by_cases b1 : lo = 1
    · subst b1
      go_enter Tryd.func42, Tryd.ntmps42
      go_wp2_with fail
      refine (itoa_any 1 h0 w hT).mono ?_
      rintro e w1 ⟨b, rfl, hb, hbel⟩
      clear hb
      go_wp2
      go_ret
      exact ⟨_, rfl, by decide, hbel⟩
    · have i0 : ((lo : Int) == 0) = false := by simp; omega
      have i1 : ((lo : Int) == 1) = false := by simp; omega
      have i2 : ((lo : Int) == -1) = false := by simp
      have HT : Hid (timesT (lo : Int) (-1) = 123 :: (digs lo ++ [44, 125])) := by
        show _ = _
        unfold timesT
        rw [if_neg (by omega), if_neg (by omega), if_neg (by omega), if_neg (by omega), if_pos rfl]
        simp
      clear b0 b1
      go_enter Tryd.func42, Tryd.ntmps42
      go_wp2_with fail
      refine (itoa_any lo h0 w hT).mono ?_
      rintro e w1 ⟨b, rfl, hb, hbel⟩
      have hbz : b.size ≤ 100 := by rw [← bs_len, hb]; have := digs_len (n := lo) (by omega); omega
      have HB := hidd hb
      clear hb
      go_wp2
      go_ret
      exact ⟨_, rfl, by rw [bs_append, bs_append, HB.out, HT.out]; rfl, hbel⟩
  · have hh : 0 ≤ hi ∧ hi ≤ 9999 := by omega
    obtain ⟨hn, rfl⟩ : ∃ hn : Nat, hi = (hn : Int) := ⟨hi.toNat, by omega⟩
    have j1 : ((hn : Int) == -1) = false := by simp
    clear a1 h1
    by_cases b0 : lo = 0 ∧ hn = 1
    · obtain ⟨rfl, rfl⟩ := b0
      go_enter Tryd.func42, Tryd.ntmps42
      go_wp2_with fail
      refine (itoa_any 0 h0 w hT).mono ?_
      rintro e w1 ⟨b, rfl, hb, hbel⟩
      clear hb
      go_wp2
      go_ret
      exact ⟨_, rfl, by decide, hbel⟩
    have hT1 : timesT (lo : Int) (hn : Int) = if (lo : Int) = (hn : Int) then 123 :: (digs lo ++ [125]) else 123 :: (digs lo ++ 44 :: (digs hn ++ [125])) := by
      unfold timesT
      rw [if_neg (by omega), if_neg (by omega), if_neg (by omega)]
      split
      · simp
      · rw [if_neg (by omega)]
        simp
    have HT1 := hidd hT1
    clear hT1
    by_cases b2 : lo = hn
    · subst b2
      have i2 : ((lo : Int) == (lo : Int)) = true := by simp
      have HT : Hid (timesT (lo : Int) (lo : Int) = 123 :: (digs lo ++ [125])) := by show _ = _; rw [HT1.out, if_pos rfl]
      by_cases c0 : lo = 0
      · subst c0
        clear b0 HT1
        go_enter Tryd.func42, Tryd.ntmps42
        go_wp2_with fail
        refine (itoa_any 0 h0 w hT).mono ?_
        rintro e w1 ⟨b, rfl, hb, hbel⟩
        have hbz : b.size ≤ 100 := by rw [← bs_len, hb]; have := digs_len (n := 0) (by omega); omega
        have HB := hidd hb
        clear hb
        go_wp2
        go_ret
        exact ⟨_, rfl, by rw [bs_append, bs_append, HB.out]; exact HT.out.symm, hbel⟩
      · have i0 : ((lo : Int) == 0) = false := by simp; omega
        clear b0 c0 HT1
        by_cases c1 : lo = 1
        · subst c1
          go_enter Tryd.func42, Tryd.ntmps42
          go_wp2_with fail
          refine (itoa_any 1 h0 w hT).mono ?_
          rintro e w1 ⟨b, rfl, hb, hbel⟩
          have hbz : b.size ≤ 100 := by rw [← bs_len, hb]; have := digs_len (n := 1) (by omega); omega
          have HB := hidd hb
          clear hb
          go_wp2
          go_ret
          exact ⟨_, rfl, by rw [bs_append, bs_append, HB.out]; exact HT.out.symm, hbel⟩
        · have i1 : ((lo : Int) == 1) = false := by simp; omega
          clear c1
          go_enter Tryd.func42, Tryd.ntmps42
          go_wp2_with fail
          refine (itoa_any lo h0 w hT).mono ?_
          rintro e w1 ⟨b, rfl, hb, hbel⟩
          have hbz : b.size ≤ 100 := by rw [← bs_len, hb]; have := digs_len (n := lo) (by omega); omega
          have HB := hidd hb
          clear hb
          go_wp2
          go_ret
          exact ⟨_, rfl, by rw [bs_append, bs_append, HB.out, HT.out]; rfl, hbel⟩
    · have i2 : ((lo : Int) == (hn : Int)) = false := by simp; omega
      have HT : Hid (timesT (lo : Int) (hn : Int) = 123 :: (digs lo ++ 44 :: (digs hn ++ [125]))) := by show _ = _; rw [HT1.out, if_neg (by omega)]
      have hT2 := fun (w' : World) (h : Below w.heap.size w w') => itoa_any hn (by omega) w' (hT.below h)
      have hz2 := digs_len (n := hn) (by omega)
      clear HT1
      by_cases c0 : lo = 0
      · subst c0
        have j2 : ((hn : Int) == 1) = false := by simp; omega
        clear b0 b2
        go_enter Tryd.func42, Tryd.ntmps42
        go_wp2_with fail
        refine (itoa_any 0 h0 w hT).mono ?_
        rintro e w1 ⟨b, rfl, hb, hbel⟩
        have hbz : b.size ≤ 100 := by rw [← bs_len, hb]; have := digs_len (n := 0) (by omega); omega
        have HB := hidd hb
        clear hb
        go_wp2_with fail
        refine (hT2 w1 hbel).mono ?_
        rintro e w2 ⟨d, rfl, hd, hbel2⟩
        have hdz : d.size ≤ 100 := by rw [← bs_len, hd]; omega
        have HD := hidd hd
        clear hd hz2
        go_wp2
        go_ret
        exact ⟨_, rfl, by rw [bs_append, bs_append, bs_append, bs_append, HB.out, HD.out, HT.out]; simp [bs], hbel.trans (hbel2.mono hbel.size)⟩
      · have i0 : ((lo : Int) == 0) = false := by simp; omega
        clear b0 c0 b2
        by_cases c1 : lo = 1
        · subst c1
          go_enter Tryd.func42, Tryd.ntmps42
          go_wp2_with fail
          refine (itoa_any 1 h0 w hT).mono ?_
          rintro e w1 ⟨b, rfl, hb, hbel⟩
          have hbz : b.size ≤ 100 := by rw [← bs_len, hb]; have := digs_len (n := 1) (by omega); omega
          have HB := hidd hb
          clear hb
          go_wp2_with fail
          refine (hT2 w1 hbel).mono ?_
          rintro e w2 ⟨d, rfl, hd, hbel2⟩
          have hdz : d.size ≤ 100 := by rw [← bs_len, hd]; omega
          have HD := hidd hd
          clear hd hz2
          go_wp2
          go_ret
          exact ⟨_, rfl, by rw [bs_append, bs_append, bs_append, bs_append, HB.out, HD.out, HT.out]; simp [bs], hbel.trans (hbel2.mono hbel.size)⟩
        · have i1 : ((lo : Int) == 1) = false := by simp; omega
          clear c1
          go_enter Tryd.func42, Tryd.ntmps42
          go_wp2_with fail
          refine (itoa_any lo h0 w hT).mono ?_
          rintro e w1 ⟨b, rfl, hb, hbel⟩
          have hbz : b.size ≤ 100 := by rw [← bs_len, hb]; have := digs_len (n := lo) (by omega); omega
          have HB := hidd hb
          clear hb
          go_wp2_with fail
          refine (hT2 w1 hbel).mono ?_
          rintro e w2 ⟨d, rfl, hd, hbel2⟩
          have hdz : d.size ≤ 100 := by rw [← bs_len, hd]; omega
          have HD := hidd hd
          clear hd hz2
          go_wp2
          go_ret
          exact ⟨_, rfl, by rw [bs_append, bs_append, bs_append, bs_append, HB.out, HD.out, HT.out]; simp [bs], hbel.trans (hbel2.mono hbel.size)⟩
end Go.Proofs.YtghjkbjpdjlddaaDoor.Sy
