/- The reference of layer 5: bounds, sets. -/
import Derived.Test.YtghjkbjpdjlddaaDoorEa
namespace Go.Proofs.YtghjkbjpdjlddaaDoor.Sy.Pn.Rp
open Go.RowKit
set_option maxRecDepth 100000
set_option linter.unusedVariables false

theorem rdigits_int (x : Int) (h0 : 0 ≤ x) (h1 : x ≤ 9999) (w : World) : Calls Tryd.prog 63 #[.int .i64 x] w fun e w' => TxtR (digs x.toNat) w e w' := by
  obtain ⟨n, rfl⟩ := Int.eq_ofNat_of_zero_le h0
  exact rdigits_any n (by omega) w
set_option maxHeartbeats 1000000 in
theorem rtimes_any (lo hi : Int) (h0 : 0 ≤ lo) (h1 : lo ≤ 9999) (h2 : -1 ≤ hi) (h3 : hi ≤ 9999) (w : World) : Calls Tryd.prog 46 #[.int .i64 lo, .int .i64 hi] w fun e w' => TxtR (timesT lo hi) w e w' := by
  by_cases m1 : hi = -1
  · subst m1
    by_cases z0 : lo = 0
    · subst z0
      go_enter Tryd.func46, Tryd.ntmps46
      go_wp2
      go_ret
      exact ⟨_, rfl, by decide, Below.refl _ _⟩
    by_cases z1 : lo = 1
    · subst z1
      go_enter Tryd.func46, Tryd.ntmps46
      go_wp2
      go_ret
      exact ⟨_, rfl, by decide, Below.refl _ _⟩
    have n0 : (lo == 0) = false := by simp; omega
    have n1 : (lo == 1) = false := by simp; omega
    have n2 : (lo == -1) = false := by simp; omega
    have HT : Hid (timesT lo (-1) = 123 :: (digs (lo : Int).toNat ++ [44, 125])) := by show _ = _; unfold timesT; rw [if_neg (by omega), if_neg (by omega), if_neg (by omega), if_neg (by omega), if_pos rfl]
    have HL := hidd (digs_len (n := (lo : Int).toNat) (by omega))
    have hdg := rdigits_int lo (by omega) (by omega)
    go_enter Tryd.func46, Tryd.ntmps46
    go_wp2_with fail
    refine (hdg w).mono ?_
    rintro e w1 ⟨d, rfl, hd, b1⟩
    have hs : d.size ≤ 4 := by rw [← bs_len, hd]; exact HL.out
    have HD := hidd hd
    clear hd hdg HL
    go_wp2
    go_ret
    exact ⟨_, rfl, by rw [bs_append, bs_append, HD.out, HT.out]; rfl, b1⟩
  · have nm : (hi == -1) = false := by simp; omega
    by_cases z0 : lo = 0
    · subst z0
      by_cases p1 : hi = 1
      · subst p1
        go_enter Tryd.func46, Tryd.ntmps46
        go_wp2
        go_ret
        exact ⟨_, rfl, by decide, Below.refl _ _⟩
      have np : (hi == 1) = false := by simp; omega
      by_cases e0 : hi = 0
      · subst e0
        have HT : Hid (timesT 0 0 = 123 :: (digs (0 : Int).toNat ++ [125])) := by show _ = _; unfold timesT; rw [if_neg (by omega), if_neg (by omega), if_neg (by omega), if_pos (by omega)]
        have HL := hidd (digs_len (n := (0 : Int).toNat) (by omega))
        have hdg := rdigits_int 0 (by omega) (by omega)
        go_enter Tryd.func46, Tryd.ntmps46
        go_wp2_with fail
        refine (hdg w).mono ?_
        rintro e w1 ⟨d, rfl, hd, b1⟩
        have hs : d.size ≤ 4 := by rw [← bs_len, hd]; exact HL.out
        have HD := hidd hd
        clear hd hdg HL
        go_wp2
        go_ret
        exact ⟨_, rfl, by rw [bs_append, bs_append, HD.out, HT.out]; rfl, b1⟩
      · have ne : ((0 : Int) == hi) = false := by simp; omega
        have HT : Hid (timesT 0 hi = 123 :: (digs (0 : Int).toNat ++ 44 :: (digs (hi : Int).toNat ++ [125]))) := by show _ = _; unfold timesT; rw [if_neg (by omega), if_neg (by omega), if_neg (by omega), if_neg (by omega), if_neg (by omega)]
        have HL := hidd (digs_len (n := (0 : Int).toNat) (by omega))
        have HL2 := hidd (digs_len (n := (hi : Int).toNat) (by omega))
        have hdg := rdigits_int 0 (by omega) (by omega)
        have hdg2 := rdigits_int hi (by omega) (by omega)
        go_enter Tryd.func46, Tryd.ntmps46
        go_wp2_with fail
        refine (hdg w).mono ?_
        rintro e w1 ⟨d, rfl, hd, b1⟩
        have hs : d.size ≤ 4 := by rw [← bs_len, hd]; exact HL.out
        have HD := hidd hd
        clear hd hdg HL
        go_wp2_with fail
        refine (hdg2 w1).mono ?_
        rintro e w2 ⟨d2, rfl, hd2, b2⟩
        have hs2 : d2.size ≤ 4 := by rw [← bs_len, hd2]; exact HL2.out
        have HD2 := hidd hd2
        clear hd2 hdg2 HL2
        go_wp2
        go_ret
        exact ⟨_, rfl, by rw [bs_append, bs_append, bs_append, bs_append, HD.out, HD2.out, HT.out]; simp [bs], b1.trans (b2.mono b1.size)⟩
    by_cases z1 : lo = 1
    · subst z1
      by_cases e0 : hi = 1
      · subst e0
        have HT : Hid (timesT 1 1 = 123 :: (digs (1 : Int).toNat ++ [125])) := by show _ = _; unfold timesT; rw [if_neg (by omega), if_neg (by omega), if_neg (by omega), if_pos (by omega)]
        have HL := hidd (digs_len (n := (1 : Int).toNat) (by omega))
        have hdg := rdigits_int 1 (by omega) (by omega)
        go_enter Tryd.func46, Tryd.ntmps46
        go_wp2_with fail
        refine (hdg w).mono ?_
        rintro e w1 ⟨d, rfl, hd, b1⟩
        have hs : d.size ≤ 4 := by rw [← bs_len, hd]; exact HL.out
        have HD := hidd hd
        clear hd hdg HL
        go_wp2
        go_ret
        exact ⟨_, rfl, by rw [bs_append, bs_append, HD.out, HT.out]; rfl, b1⟩
      · have ne : ((1 : Int) == hi) = false := by simp; omega
        have HT : Hid (timesT 1 hi = 123 :: (digs (1 : Int).toNat ++ 44 :: (digs (hi : Int).toNat ++ [125]))) := by show _ = _; unfold timesT; rw [if_neg (by omega), if_neg (by omega), if_neg (by omega), if_neg (by omega), if_neg (by omega)]
        have HL := hidd (digs_len (n := (1 : Int).toNat) (by omega))
        have HL2 := hidd (digs_len (n := (hi : Int).toNat) (by omega))
        have hdg := rdigits_int 1 (by omega) (by omega)
        have hdg2 := rdigits_int hi (by omega) (by omega)
        go_enter Tryd.func46, Tryd.ntmps46
        go_wp2_with fail
        refine (hdg w).mono ?_
        rintro e w1 ⟨d, rfl, hd, b1⟩
        have hs : d.size ≤ 4 := by rw [← bs_len, hd]; exact HL.out
        have HD := hidd hd
        clear hd hdg HL
        go_wp2_with fail
        refine (hdg2 w1).mono ?_
        rintro e w2 ⟨d2, rfl, hd2, b2⟩
        have hs2 : d2.size ≤ 4 := by rw [← bs_len, hd2]; exact HL2.out
        have HD2 := hidd hd2
        clear hd2 hdg2 HL2
        go_wp2
        go_ret
        exact ⟨_, rfl, by rw [bs_append, bs_append, bs_append, bs_append, HD.out, HD2.out, HT.out]; simp [bs], b1.trans (b2.mono b1.size)⟩
    have n0 : (lo == 0) = false := by simp; omega
    have n1 : (lo == 1) = false := by simp; omega
    by_cases e0 : lo = hi
    · subst e0
      have HT : Hid (timesT lo lo = 123 :: (digs (lo : Int).toNat ++ [125])) := by show _ = _; unfold timesT; rw [if_neg (by omega), if_neg (by omega), if_neg (by omega), if_pos (by omega)]
      have HL := hidd (digs_len (n := (lo : Int).toNat) (by omega))
      have hdg := rdigits_int lo (by omega) (by omega)
      go_enter Tryd.func46, Tryd.ntmps46
      go_wp2_with fail
      refine (hdg w).mono ?_
      rintro e w1 ⟨d, rfl, hd, b1⟩
      have hs : d.size ≤ 4 := by rw [← bs_len, hd]; exact HL.out
      have HD := hidd hd
      clear hd hdg HL
      go_wp2
      go_ret
      exact ⟨_, rfl, by rw [bs_append, bs_append, HD.out, HT.out]; rfl, b1⟩
    · have ne : (lo == hi) = false := by simp; omega
      have HT : Hid (timesT lo hi = 123 :: (digs (lo : Int).toNat ++ 44 :: (digs (hi : Int).toNat ++ [125]))) := by show _ = _; unfold timesT; rw [if_neg (by omega), if_neg (by omega), if_neg (by omega), if_neg (by omega), if_neg (by omega)]
      have HL := hidd (digs_len (n := (lo : Int).toNat) (by omega))
      have HL2 := hidd (digs_len (n := (hi : Int).toNat) (by omega))
      have hdg := rdigits_int lo (by omega) (by omega)
      have hdg2 := rdigits_int hi (by omega) (by omega)
      go_enter Tryd.func46, Tryd.ntmps46
      go_wp2_with fail
      refine (hdg w).mono ?_
      rintro e w1 ⟨d, rfl, hd, b1⟩
      have hs : d.size ≤ 4 := by rw [← bs_len, hd]; exact HL.out
      have HD := hidd hd
      clear hd hdg HL
      go_wp2_with fail
      refine (hdg2 w1).mono ?_
      rintro e w2 ⟨d2, rfl, hd2, b2⟩
      have hs2 : d2.size ≤ 4 := by rw [← bs_len, hd2]; exact HL2.out
      have HD2 := hidd hd2
      clear hd2 hdg2 HL2
      go_wp2
      go_ret
      exact ⟨_, rfl, by rw [bs_append, bs_append, bs_append, bs_append, HD.out, HD2.out, HT.out]; simp [bs], b1.trans (b2.mono b1.size)⟩
end Go.Proofs.YtghjkbjpdjlddaaDoor.Sy.Pn.Rp
