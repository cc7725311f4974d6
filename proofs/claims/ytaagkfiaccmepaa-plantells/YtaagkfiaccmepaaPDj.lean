/- The reference of layer 5: bounds, sets. -/
import Derived.Test.YtaagkfiaccmepaaPEa
import Derived.Test.YtaagkfiaccmepaaPDf
namespace Go.Proofs.Ytaagkfiaccmepaa.Sy.Pn.Rp
open Go.RowKit
set_option maxRecDepth 100000
set_option linter.unusedVariables false

theorem rdigits_int (x : Int) (h0 : 0 ≤ x) (h1 : x ≤ 9999) (w : World) : Calls Try.prog 68 #[.int .i64 x] w fun e w' => TxtR (digs x.toNat) w e w' := by
  obtain ⟨n, rfl⟩ := Int.eq_ofNat_of_zero_le h0
  exact rdigits_any n (by omega) w
set_option maxHeartbeats 1000000 in
theorem rtimes_any (lo hi : Int) (h0 : 0 ≤ lo) (h1 : lo ≤ 9999) (h2 : -1 ≤ hi) (h3 : hi ≤ 9999) (w : World) : Calls Try.prog 59 #[.int .i64 lo, .int .i64 hi] w fun e w' => TxtR (timesT lo hi) w e w' := by
  by_cases m1 : hi = -1
  · subst m1
    by_cases z0 : lo = 0
    · subst z0
      go_enter Try.func59, Try.ntmps59
      go_wp2
      go_ret
      exact ⟨_, rfl, by decide, Below.refl _ _⟩
    by_cases z1 : lo = 1
    · subst z1
      go_enter Try.func59, Try.ntmps59
      go_wp2
      go_ret
      exact ⟨_, rfl, by decide, Below.refl _ _⟩
    have n0 : (lo == 0) = false := by simp; omega
    have n1 : (lo == 1) = false := by simp; omega
    have n2 : (lo == -1) = false := by simp; omega
    have HT : Hid (timesT lo (-1) = 123 :: (digs (lo : Int).toNat ++ [44, 125])) := by show _ = _; unfold timesT; rw [if_neg (by omega), if_neg (by omega), if_neg (by omega), if_neg (by omega), if_pos rfl]
    have HL := hidd (digs_len (n := (lo : Int).toNat) (by omega))
    have hdg := rdigits_int lo (by omega) (by omega)
    go_enter Try.func59, Try.ntmps59
    go_wp2_with fail
    refine (hdg w).mono ?_
    rintro e w1 ⟨d, rfl, hd, b1⟩
    have hs : d.size ≤ 4 := by rw [← bs_len, hd]; exact HL.out
    have HD := hidd hd
    clear hd hdg HL
    go_wp2
    go_ret
    exact ⟨_, rfl, by rw [bs_append, bs_append, HD.out, HT.out]; rfl, b1⟩
  · have nm : (hi == -1) = false := by simp; omega
    by_cases z0 : lo = 0
    · subst z0
      by_cases p1 : hi = 1
      · subst p1
        go_enter Try.func59, Try.ntmps59
        go_wp2
        go_ret
        exact ⟨_, rfl, by decide, Below.refl _ _⟩
      have np : (hi == 1) = false := by simp; omega
      by_cases e0 : hi = 0
      · subst e0
        have HT : Hid (timesT 0 0 = 123 :: (digs (0 : Int).toNat ++ [125])) := by show _ = _; unfold timesT; rw [if_neg (by omega), if_neg (by omega), if_neg (by omega), if_pos (by omega)]
        have HL := hidd (digs_len (n := (0 : Int).toNat) (by omega))
        have hdg := rdigits_int 0 (by omega) (by omega)
        go_enter Try.func59, Try.ntmps59
        go_wp2_with fail
        refine (hdg w).mono ?_
        rintro e w1 ⟨d, rfl, hd, b1⟩
        have hs : d.size ≤ 4 := by rw [← bs_len, hd]; exact HL.out
        have HD := hidd hd
        clear hd hdg HL
        go_wp2
        go_ret
        exact ⟨_, rfl, by rw [bs_append, bs_append, HD.out, HT.out]; rfl, b1⟩
      · have ne : ((0 : Int) == hi) = false := by simp; omega
        have HT : Hid (timesT 0 hi = 123 :: (digs (0 : Int).toNat ++ 44 :: (digs (hi : Int).toNat ++ [125]))) := by show _ = _; unfold timesT; rw [if_neg (by omega), if_neg (by omega), if_neg (by omega), if_neg (by omega), if_neg (by omega)]
        have HL := hidd (digs_len (n := (0 : Int).toNat) (by omega))
        have HL2 := hidd (digs_len (n := (hi : Int).toNat) (by omega))
        have hdg := rdigits_int 0 (by omega) (by omega)
        have hdg2 := rdigits_int hi (by omega) (by omega)
        go_enter Try.func59, Try.ntmps59
        go_wp2_with fail
        refine (hdg w).mono ?_
        rintro e w1 ⟨d, rfl, hd, b1⟩
        have hs : d.size ≤ 4 := by rw [← bs_len, hd]; exact HL.out
        have HD := hidd hd
        clear hd hdg HL
        go_wp2_with fail
        refine (hdg2 w1).mono ?_
        rintro e w2 ⟨d2, rfl, hd2, b2⟩
        have hs2 : d2.size ≤ 4 := by rw [← bs_len, hd2]; exact HL2.out
        have HD2 := hidd hd2
        clear hd2 hdg2 HL2
        go_wp2
        go_ret
        exact ⟨_, rfl, by rw [bs_append, bs_append, bs_append, bs_append, HD.out, HD2.out, HT.out]; simp [bs], b1.trans (b2.mono b1.size)⟩
    by_cases z1 : lo = 1
    · subst z1
      by_cases e0 : hi = 1
      · subst e0
        have HT : Hid (timesT 1 1 = 123 :: (digs (1 : Int).toNat ++ [125])) := by show _ = _; unfold timesT; rw [if_neg (by omega), if_neg (by omega), if_neg (by omega), if_pos (by omega)]
        have HL := hidd (digs_len (n := (1 : Int).toNat) (by omega))
        have hdg := rdigits_int 1 (by omega) (by omega)
        go_enter Try.func59, Try.ntmps59
        go_wp2_with fail
        refine (hdg w).mono ?_
        rintro e w1 ⟨d, rfl, hd, b1⟩
        have hs : d.size ≤ 4 := by rw [← bs_len, hd]; exact HL.out
        have HD := hidd hd
        clear hd hdg HL
        go_wp2
        go_ret
        exact ⟨_, rfl, by rw [bs_append, bs_append, HD.out, HT.out]; rfl, b1⟩
      · have ne : ((1 : Int) == hi) = false := by simp; omega
        have HT : Hid (timesT 1 hi = 123 :: (digs (1 : Int).toNat ++ 44 :: (digs (hi : Int).toNat ++ [125]))) := by show _ = _; unfold timesT; rw [if_neg (by omega), if_neg (by omega), if_neg (by omega), if_neg (by omega), if_neg (by omega)]
        have HL := hidd (digs_len (n := (1 : Int).toNat) (by omega))
        have HL2 := hidd (digs_len (n := (hi : Int).toNat) (by omega))
        have hdg := rdigits_int 1 (by omega) (by omega)
        have hdg2 := rdigits_int hi (by omega) (by omega)
        go_enter Try.func59, Try.ntmps59
        go_wp2_with fail
        refine (hdg w).mono ?_
        rintro e w1 ⟨d, rfl, hd, b1⟩
        have hs : d.size ≤ 4 := by rw [← bs_len, hd]; exact HL.out
        have HD := hidd hd
        clear hd hdg HL
        go_wp2_with fail
        refine (hdg2 w1).mono ?_
        rintro e w2 ⟨d2, rfl, hd2, b2⟩
        have hs2 : d2.size ≤ 4 := by rw [← bs_len, hd2]; exact HL2.out
        have HD2 := hidd hd2
        clear hd2 hdg2 HL2
        go_wp2
        go_ret
        exact ⟨_, rfl, by rw [bs_append, bs_append, bs_append, bs_append, HD.out, HD2.out, HT.out]; simp [bs], b1.trans (b2.mono b1.size)⟩
    have n0 : (lo == 0) = false := by simp; omega
    have n1 : (lo == 1) = false := by simp; omega
    by_cases e0 : lo = hi
    · subst e0
      have HT : Hid (timesT lo lo = 123 :: (digs (lo : Int).toNat ++ [125])) := by show _ = _; unfold timesT; rw [if_neg (by omega), if_neg (by omega), if_neg (by omega), if_pos (by omega)]
      have HL := hidd (digs_len (n := (lo : Int).toNat) (by omega))
      have hdg := rdigits_int lo (by omega) (by omega)
      go_enter Try.func59, Try.ntmps59
      go_wp2_with fail
      refine (hdg w).mono ?_
      rintro e w1 ⟨d, rfl, hd, b1⟩
      have hs : d.size ≤ 4 := by rw [← bs_len, hd]; exact HL.out
      have HD := hidd hd
      clear hd hdg HL
      go_wp2
      go_ret
      exact ⟨_, rfl, by rw [bs_append, bs_append, HD.out, HT.out]; rfl, b1⟩
    · have ne : (lo == hi) = false := by simp; omega
      have HT : Hid (timesT lo hi = 123 :: (digs (lo : Int).toNat ++ 44 :: (digs (hi : Int).toNat ++ [125]))) := by show _ = _; unfold timesT; rw [if_neg (by omega), if_neg (by omega), if_neg (by omega), if_neg (by omega), if_neg (by omega)]
      have HL := hidd (digs_len (n := (lo : Int).toNat) (by omega))
      have HL2 := hidd (digs_len (n := (hi : Int).toNat) (by omega))
      have hdg := rdigits_int lo (by omega) (by omega)
      have hdg2 := rdigits_int hi (by omega) (by omega)
      go_enter Try.func59, Try.ntmps59
      go_wp2_with fail
      refine (hdg w).mono ?_
      rintro e w1 ⟨d, rfl, hd, b1⟩
      have hs : d.size ≤ 4 := by rw [← bs_len, hd]; exact HL.out
      have HD := hidd hd
      clear hd hdg HL
      go_wp2_with fail
      refine (hdg2 w1).mono ?_
      rintro e w2 ⟨d2, rfl, hd2, b2⟩
      have hs2 : d2.size ≤ 4 := by rw [← bs_len, hd2]; exact HL2.out
      have HD2 := hidd hd2
      clear hd2 hdg2 HL2
      go_wp2
      go_ret
      exact ⟨_, rfl, by rw [bs_append, bs_append, bs_append, bs_append, HD.out, HD2.out, HT.out]; simp [bs], b1.trans (b2.mono b1.size)⟩
end Go.Proofs.Ytaagkfiaccmepaa.Sy.Pn.Rp

namespace Go.Proofs.Ytaagkfiaccmepaa.Sy.Pn
set_option maxRecDepth 100000
set_option linter.unusedVariables false

def foldS (q : Nat → Bool) (L : List (Int × Int)) : Nat → Bool := L.foldl (fun q x => uniS q (rngS x.1.toNat x.2.toNat)) q
/-- What is read of a set's text. -/
def qS (s : Nat → Bool) : Nat → Bool :=
  if (spn s).length = 1 ∧ ((spn s).getD 0 (0, 0)).1 = ((spn s).getD 0 (0, 0)).2 then oneS ((spn s).getD 0 (0, 0)).1.toNat else if eqDot s then dotS else foldS noS (spn s)
theorem spn_has (s : Nat → Bool) (b : Nat) (hb : b < 256) : (∃ x ∈ spn s, x.1 ≤ (b : Int) ∧ (b : Int) ≤ x.2) ↔ s b = true := by
  have h := (good_spans _ (lst_rises s 256)).has (b : Int)
  rw [lst_mem] at h
  refine h.trans ⟨fun ⟨c, h1, h2, h3⟩ => ?_, fun h1 => ⟨b, rfl, hb, h1⟩⟩
  have : b = c := by omega
  subst this
  exact h3
theorem foldS_has (b : Nat) : ∀ (L : List (Int × Int)) (q : Nat → Bool), (∀ x ∈ L, 0 ≤ x.1 ∧ x.1 ≤ x.2) → (foldS q L b = true ↔ q b = true ∨ ∃ x ∈ L, x.1 ≤ (b : Int) ∧ (b : Int) ≤ x.2)
  | [], q, _ => by simp [foldS]
  | x :: L, q, h => by
    have hx := h x (by simp)
    have := foldS_has b L (uniS q (rngS x.1.toNat x.2.toNat)) (fun y hy => h y (by simp [hy]))
    show foldS (uniS q (rngS x.1.toNat x.2.toNat)) L b = true ↔ _
    rw [this]
    simp only [uniS, rngS, Bool.or_eq_true, Bool.and_eq_true, decide_eq_true_eq, List.mem_cons, exists_eq_or_imp]
    constructor
    · rintro ((h1 | h1) | h1)
      · exact .inl h1
      · exact .inr (.inl (by omega))
      · exact .inr (.inr h1)
    · rintro (h1 | h1 | h1)
      · exact .inl (.inl h1)
      · exact .inl (.inr (by omega))
      · exact .inr h1
theorem qS_has (s : Nat → Bool) (b : Nat) (hb : b < 256) : qS s b = s b := by
  unfold qS
  split
  · rename_i h
    obtain ⟨x, hx⟩ : ∃ x, spn s = [x] := by
      match hs : spn s with
      | [] => rw [hs] at h; simp at h
      | [x] => exact ⟨x, rfl⟩
      | _ :: _ :: _ => rw [hs] at h; simp at h
    have hh := spn_has s b hb
    have ha := spn_at s x (by rw [hx]; simp)
    rw [hx] at hh h ⊢
    simp at hh h ⊢
    rw [Bool.eq_iff_iff, ← hh]
    simp [oneS]
    omega
  · split
    · rename_i h
      unfold eqDot at h
      rw [List.all_eq_true] at h
      have := h b (List.mem_range.2 hb)
      exact (by simpa using this : s b = dotS b).symm
    · rw [Bool.eq_iff_iff, foldS_has b _ _ (fun x hx => ⟨(spn_at s x hx).1, (spn_at s x hx).2.1⟩), spn_has s b hb]
      simp [noS]
end Go.Proofs.Ytaagkfiaccmepaa.Sy.Pn
