/- The law SyntaxBounds, by what Parse owes. -/
import Derived.Test.YtoflibajalbdfaaDoorNe
import Derived.Test.YtoflibajalbdfaaDoorGs
namespace Go.Proofs.YtoflibajalbdfaaDoor.Sy
open Go.RowKit

theorem bs_nums (xs : List Int) (h : ∀ x ∈ xs, 0 ≤ x ∧ x ≤ 255) : bs (strOfNums xs) = xs.map Int.toNat := by
  unfold bs
  rw [strOfNums_data, List.map_map]
  apply List.map_congr_left
  intro x hx
  have := h x hx
  show (UInt8.ofNat x.toNat).toNat = x.toNat
  rw [UInt8.toNat_ofNat']
  omega

set_option maxHeartbeats 400000 in
theorem digit_any (n : Nat) (h : n ≤ 9) (w : World) : Calls Tryd.prog 15 #[.int .i64 (n : Int)] w fun e w' => ∃ b, e = .returned (.string b) ∧ bs b = digs n ∧ Below w.heap.size w w' := by
  have h9 : ¬ (n : Int) > 9 := by omega
  have hB := bts_one w (48 + (n : Int)) (by omega) (by omega)
  have hcv := str_bytes (some ⟨w.heap.size, 0, none⟩) 1 [48 + (n : Int)] _ hB
  have hbn : Hid (bs (strOfNums [48 + (n : Int)]) = digs n) := by
    show _ = _
    rw [bs_nums _ (by simp; omega), digs_small h]
    simp
    omega
  change (convert 40 9 (.slice (some ⟨w.heap.size, 0, none⟩) 1 1)).run Tryd.prog (w.alloc (.cells #[.int .u8 (48 + (n : Int))] 5)) = _ at hcv
  clear hB
  generalize strOfNums [48 + (n : Int)] = b at *
  go_enter Tryd.func15, Tryd.ntmps15
  go_wp2
  go_ret
  exact ⟨b, rfl, hbn.out, (Below.refl _ _).alloc (Nat.le_refl _) _⟩
set_option maxHeartbeats 400000 in
theorem digits_any : ∀ (n : Nat), n ≤ 9999 → ∀ w : World, Calls Tryd.prog 15 #[.int .i64 (n : Int)] w fun e w' => ∃ b, e = .returned (.string b) ∧ bs b = digs n ∧ Below w.heap.size w w' := by
  intro n
  induction n using Nat.strongRecOn with
  | ind n ih =>
    intro hn w
    by_cases h9 : n ≤ 9
    · exact digit_any n h9 w
    · have h10 : (n : Int) > 9 := by omega
      have i1 := ih (n / 10) (by omega) (by omega)
      have i2 := digit_any (n % 10) (by omega)
      have HD := hidd (digs_great (n := n) (by omega))
      have HD2 := hidd (digs_small (n := n % 10) (by omega))
      push_cast at i1 i2
      have HL1 := hidd (digs_len (n := n / 10) (by omega))
      clear ih
      go_enter Tryd.func15, Tryd.ntmps15
      go_wp2_with fail
      refine (i1 _).mono ?_
      rintro e w1 ⟨d1, rfl, hd1, b1⟩
      have hs1 : d1.size ≤ 4 := by rw [← bs_len, hd1]; exact HL1.out
      go_wp2_with fail
      refine (i2 _).mono ?_
      rintro e w2 ⟨d2, rfl, hd2, b2⟩
      have hs2 : d2.size ≤ 4 := by rw [← bs_len, hd2, HD2.out]; simp
      have HE := hidd hd1
      have HE2 := hidd hd2
      clear hd1 hd2 i1 i2
      go_wp2
      go_ret
      exact ⟨d1 ++ d2, rfl, by rw [bs_append, HE.out, HE2.out, HD.out, HD2.out], b1.trans (b2.mono b1.size)⟩

/-- The second node of a list of two, read field by field. -/
theorem nds_second {w : World} {B : Nat} {A : Option Addr} {gs : List Gd} {n0 n1 : Nd} (h : Nds w B A gs) (hg : GN gs [n0, n1]) : ∃ b off, A = some ⟨b, off, none⟩ ∧ w.cell? ⟨b, off + 9, none⟩ = some (.int .u8 (n1.op : Int)) ∧ w.cell? ⟨b, off + 9 + 6, none⟩ = some (.int .i64 n1.lo) ∧ w.cell? ⟨b, off + 9 + 7, none⟩ = some (.int .i64 n1.hi) := by
  have hl : gs.length = 2 := hg.1
  obtain ⟨b, off, rfl, _, A1, c1, _, hr⟩ := h.at_ (k := 1) (by omega)
  have g1 := hg.2 1 (by omega)
  have e : ([n0, n1] : List Nd).getD 1 nd0 = n1 := rfl
  rw [e] at g1
  have h0 := hr 0 _ rfl
  have h6 := hr 6 _ rfl
  have h7 := hr 7 _ rfl
  rw [g1.op] at h0
  rw [g1.lo] at h6
  rw [g1.hi] at h7
  exact ⟨b, off, rfl, h0, h6, h7⟩


set_option maxRecDepth 100000 in
set_option maxHeartbeats 2000000 in
theorem bounds_core (hP : ParseC) (m n : Int) (two : Bool) (a b : Nat) (w : World) (hE : EV w) (hq1 : Int.tmod m 5001 = (a : Int)) (hq2 : Int.tmod n 5001 = (b : Int)) (ha : a ≤ 5000) (hb : b ≤ 5000) :
    Calls Tryd.prog 6 #[.int .u16 m, .int .u16 n, .bool two] w fun e w' => e = .returned (.bool true) ∧ Below w.heap.size w w' := by
  go_enter Tryd.func6, Tryd.ntmps6
  go_wp2_with fail
  refine (shown_any hP _ hE).mono ?_
  rintro e w1 ⟨rfl, b1⟩
  go_wp2_with fail
  refine (digits_any a (by omega) _).mono ?_
  rintro e w2 ⟨d2, rfl, hd2, b2⟩
  have hs2 : d2.size ≤ 4 := by rw [← bs_len, hd2]; exact digs_len (by omega)
  have D2 := b1.trans (b2.mono b1.size)
  have HD2 := hidd hd2
  clear b1 b2 hq1 hq2 hd2
  cases two with
  | false =>
    have D3 := D2
    have hpe := parse_bnd1 (a := a) (by omega)
    have hbe : bs ({ data := #[120, 123] } ++ d2 ++ { data := #[125] }) = bnd a [125] := by rw [bs_append, bs_append, HD2.out]; rfl
    have hsz : ({ data := #[120, 123] } ++ d2 ++ { data := #[125] } : ByteArray).size ≤ 100000 := by rw [ByteArray.size_append, ByteArray.size_append]; show 2 + d2.size + 1 ≤ _; omega
    by_cases hv : a ≤ 4096 ∧ 1 ≤ a
    · rw [if_pos hv, ← hbe] at hpe
      have hPg := hP.ok hsz hpe
      have v1 := hv.1
      have v2 := hv.2
      clear hpe hbe hv D2
      go_wp2_with fail
      refine (hPg _ (hE.below D3)).mono ?_
      rintro e w4 ⟨A4, c4, gs4, rfl, hn4, hg4, b4⟩
      have D4 := D3.trans (b4.mono D3.size)
      clear hPg
      go_wp2_with fail
      refine (digits_any a (by omega) _).mono ?_
      rintro e w5 ⟨d5, rfl, hd5, b5⟩
      have hs5 : d5.size ≤ 4 := by rw [← bs_len, hd5]; exact digs_len (by omega)
      have hP5 := hP.ok (s := { data := #[120, 123] } ++ d5 ++ { data := #[44, 125] }) (by rw [ByteArray.size_append, ByteArray.size_append]; show 2 + d5.size + 2 ≤ _; omega) (by rw [bs_append, bs_append, hd5]; exact parse_bnd2 (by omega))
      have hn5 := (hn4.below b5).more b5.size
      have D5 := D4.trans (b5.mono D4.size)
      clear b4 b5 hn4 D4 hP hd5
      go_wp2_with fail
      refine (hP5 _ (hE.below D5)).mono ?_
      rintro e w6 ⟨A6, c6, gs6, rfl, hn6, hg6, b6⟩
      have D6 := D5.trans (b6.mono D5.size)
      have hn7 := hn5.below b6
      obtain ⟨q1, o1, rfl, p1, p2, p3⟩ := nds_second hn7 hg4
      obtain ⟨q2, o2, rfl, r1, r2, r3⟩ := nds_second hn6 hg6
      have l4 : gs4.length = 2 := hg4.1
      have l6 : gs6.length = 2 := hg6.1
      rw [l4, l6]
      simp only [ndRep] at p1 p2 p3 r1 r2 r3
      clear hn5 hn6 hn7 hg4 hg6 hP5 b6 D5
      go_wp2
      go_ret
      exact ⟨rfl, D6⟩
    · rw [if_neg hv, ← hbe] at hpe
      have hPb := hP.bad hsz hpe
      have hv2 : a = 0 ∨ 4096 < a := by omega
      clear hpe hbe hv D2 hP
      rcases hv2 with rfl | hv2
      · skip
        go_wp2_with fail
        refine (hPb _ (hE.below D3)).mono ?_
        rintro e w4 ⟨A4, c4, rfl, b4⟩
        have D4 := D3.trans (b4.mono D3.size)
        clear hPb
        go_wp2
        go_ret
        exact ⟨rfl, D4⟩
      · skip
        go_wp2_with fail
        refine (hPb _ (hE.below D3)).mono ?_
        rintro e w4 ⟨A4, c4, rfl, b4⟩
        have D4 := D3.trans (b4.mono D3.size)
        clear hPb
        go_wp2
        go_ret
        exact ⟨rfl, D4⟩
  | true =>
    go_wp2_with fail
    refine (digits_any b (by omega) _).mono ?_
    rintro e w3 ⟨d3, rfl, hd3, b3⟩
    have hs3 : d3.size ≤ 4 := by rw [← bs_len, hd3]; exact digs_len (by omega)
    have D3 := D2.trans (b3.mono D2.size)
    have hpe := parse_bnd3 (a := a) (b := b) (by omega) (by omega)
    have hbe : bs ({ data := #[120, 123] } ++ d2 ++ { data := #[44] } ++ d3 ++ { data := #[125] }) = bnd a (44 :: (digs b ++ [125])) := by
      rw [bs_append, bs_append, bs_append, bs_append, HD2.out, hd3]
      show (([120, 123] ++ digs a ++ [44]) ++ digs b) ++ [125] = _
      unfold bnd
      simp
    have hsz : ({ data := #[120, 123] } ++ d2 ++ { data := #[44] } ++ d3 ++ { data := #[125] } : ByteArray).size ≤ 100000 := by
      rw [ByteArray.size_append, ByteArray.size_append, ByteArray.size_append, ByteArray.size_append]
      show 2 + d2.size + 1 + d3.size + 1 ≤ _
      omega
    clear b3 D2 hd3
    by_cases hv : a ≤ 4096 ∧ b ≤ 4096 ∧ 1 ≤ b ∧ a ≤ b
    · rw [if_pos hv, ← hbe] at hpe
      have hPg := hP.ok hsz hpe
      obtain ⟨v1, v2, v3, v4⟩ := hv
      have hda : decide ((4096 : Int) < (a : Int)) = false := decide_eq_false (by omega)
      have hdb : decide ((4096 : Int) < (b : Int)) = false := decide_eq_false (by omega)
      have hmx : decide ((b : Int) < (if (a : Int) < 1 then (1 : Int) else (a : Int))) = false := decide_eq_false (by split <;> omega)
      clear hpe hbe
      have h01 : (a : Int) < 1 ∨ ¬ (a : Int) < 1 := by omega
      rcases h01 with h01 | h01
      · skip
        go_wp2_with fail
        refine (hPg _ (hE.below D3)).mono ?_
        rintro e w4 ⟨A4, c4, gs4, rfl, hn4, hg4, b4⟩
        have D4 := D3.trans (b4.mono D3.size)
        clear hPg
        go_wp2_with fail
        refine (digits_any a (by omega) _).mono ?_
        rintro e w5 ⟨d5, rfl, hd5, b5⟩
        have hs5 : d5.size ≤ 4 := by rw [← bs_len, hd5]; exact digs_len (by omega)
        have hP5 := hP.ok (s := { data := #[120, 123] } ++ d5 ++ { data := #[44, 125] }) (by rw [ByteArray.size_append, ByteArray.size_append]; show 2 + d5.size + 2 ≤ _; omega) (by rw [bs_append, bs_append, hd5]; exact parse_bnd2 (by omega))
        have hn5 := (hn4.below b5).more b5.size
        have D5 := D4.trans (b5.mono D4.size)
        clear b4 b5 hn4 D4 hP hd5
        go_wp2_with fail
        refine (hP5 _ (hE.below D5)).mono ?_
        rintro e w6 ⟨A6, c6, gs6, rfl, hn6, hg6, b6⟩
        have D6 := D5.trans (b6.mono D5.size)
        have hn7 := hn5.below b6
        obtain ⟨q1, o1, rfl, p1, p2, p3⟩ := nds_second hn7 hg4
        obtain ⟨q2, o2, rfl, r1, r2, r3⟩ := nds_second hn6 hg6
        have l4 : gs4.length = 2 := hg4.1
        have l6 : gs6.length = 2 := hg6.1
        rw [l4, l6]
        simp only [ndRep] at p1 p2 p3 r1 r2 r3
        clear hn5 hn6 hn7 hg4 hg6 hP5 b6 D5
        go_wp2
        go_ret
        exact ⟨rfl, D6⟩
      · skip
        go_wp2_with fail
        refine (hPg _ (hE.below D3)).mono ?_
        rintro e w4 ⟨A4, c4, gs4, rfl, hn4, hg4, b4⟩
        have D4 := D3.trans (b4.mono D3.size)
        clear hPg
        go_wp2_with fail
        refine (digits_any a (by omega) _).mono ?_
        rintro e w5 ⟨d5, rfl, hd5, b5⟩
        have hs5 : d5.size ≤ 4 := by rw [← bs_len, hd5]; exact digs_len (by omega)
        have hP5 := hP.ok (s := { data := #[120, 123] } ++ d5 ++ { data := #[44, 125] }) (by rw [ByteArray.size_append, ByteArray.size_append]; show 2 + d5.size + 2 ≤ _; omega) (by rw [bs_append, bs_append, hd5]; exact parse_bnd2 (by omega))
        have hn5 := (hn4.below b5).more b5.size
        have D5 := D4.trans (b5.mono D4.size)
        clear b4 b5 hn4 D4 hP hd5
        go_wp2_with fail
        refine (hP5 _ (hE.below D5)).mono ?_
        rintro e w6 ⟨A6, c6, gs6, rfl, hn6, hg6, b6⟩
        have D6 := D5.trans (b6.mono D5.size)
        have hn7 := hn5.below b6
        obtain ⟨q1, o1, rfl, p1, p2, p3⟩ := nds_second hn7 hg4
        obtain ⟨q2, o2, rfl, r1, r2, r3⟩ := nds_second hn6 hg6
        have l4 : gs4.length = 2 := hg4.1
        have l6 : gs6.length = 2 := hg6.1
        rw [l4, l6]
        simp only [ndRep] at p1 p2 p3 r1 r2 r3
        clear hn5 hn6 hn7 hg4 hg6 hP5 b6 D5
        go_wp2
        go_ret
        exact ⟨rfl, D6⟩
    · rw [if_neg hv, ← hbe] at hpe
      have hPb := hP.bad hsz hpe
      have hv2 : 4096 < a ∨ (a ≤ 4096 ∧ 4096 < b) ∨ (a ≤ 4096 ∧ b ≤ 4096 ∧ b < max a 1) := by omega
      clear hpe hbe hv hP
      rcases hv2 with h1 | ⟨h1, h2⟩ | ⟨h1, h2, h3⟩
      · skip
        go_wp2_with fail
        refine (hPb _ (hE.below D3)).mono ?_
        rintro e w4 ⟨A4, c4, rfl, b4⟩
        have D4 := D3.trans (b4.mono D3.size)
        clear hPb
        go_wp2
        go_ret
        exact ⟨rfl, D4⟩
      · skip
        go_wp2_with fail
        refine (hPb _ (hE.below D3)).mono ?_
        rintro e w4 ⟨A4, c4, rfl, b4⟩
        have D4 := D3.trans (b4.mono D3.size)
        clear hPb
        go_wp2
        go_ret
        exact ⟨rfl, D4⟩
      · have hda : decide ((4096 : Int) < (a : Int)) = false := decide_eq_false (by omega)
        have hdb : decide ((4096 : Int) < (b : Int)) = false := decide_eq_false (by omega)
        have hmx : decide ((b : Int) < (if (a : Int) < 1 then (1 : Int) else (a : Int))) = true := decide_eq_true (by split <;> omega)
        have h01 : ((a : Int) < 1 ∧ (b : Int) < 1) ∨ (¬ (a : Int) < 1 ∧ (b : Int) < (a : Int)) := by omega
        clear h3
        rcases h01 with ⟨h01, h02⟩ | ⟨h01, h02⟩
        · skip
          go_wp2_with fail
          refine (hPb _ (hE.below D3)).mono ?_
          rintro e w4 ⟨A4, c4, rfl, b4⟩
          have D4 := D3.trans (b4.mono D3.size)
          clear hPb
          go_wp2
          go_ret
          exact ⟨rfl, D4⟩
        · skip
          go_wp2_with fail
          refine (hPb _ (hE.below D3)).mono ?_
          rintro e w4 ⟨A4, c4, rfl, b4⟩
          have D4 := D3.trans (b4.mono D3.size)
          clear hPb
          go_wp2
          go_ret
          exact ⟨rfl, D4⟩

theorem sbounds_any (hP : ParseC) (m n : Int) (two : Bool) (w : World) (hE : EV w) (m0 : 0 ≤ m) (n0 : 0 ≤ n) :
    Calls Tryd.prog 6 #[.int .u16 m, .int .u16 n, .bool two] w fun e w' => e = .returned (.bool true) ∧ Below w.heap.size w w' :=
  bounds_core hP m n two (m % 5001).toNat (n % 5001).toNat w hE (by rw [Int.tmod_eq_emod_of_nonneg m0]; omega) (by rw [Int.tmod_eq_emod_of_nonneg n0]; omega) (by omega) (by omega)

end Go.Proofs.YtoflibajalbdfaaDoor.Sy
