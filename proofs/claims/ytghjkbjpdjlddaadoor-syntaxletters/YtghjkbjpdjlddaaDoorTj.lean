/- The landed parser: bounds, and how often something is repeated. -/
import Derived.Test.YtghjkbjpdjlddaaDoorTi
namespace Go.Proofs.YtghjkbjpdjlddaaDoor
theorem Sy.EV.touch {w w' : World} {b : Nat} (h : Sy.EV w) (a : Touch b b w w') (hb : 5 ≠ b) : Sy.EV w' := by
  have hl := h.lt
  obtain ⟨ev, h1, h2⟩ := h
  exact ⟨ev, (World.cell?_of_block (a.block _ hl hb hb)).trans h1, h2⟩
end Go.Proofs.YtghjkbjpdjlddaaDoor
namespace Go.Proofs.YtghjkbjpdjlddaaDoor.Sy
open Go.RowKit
set_option maxRecDepth 100000

section
variable {w w' : World} {b : Nat} {s : ByteArray} {er pl : Int} {v : Value} {d : Int}
/-- What is read is how often, and where that ends; or what is wrong. -/
def GotN (b : Nat) (s : ByteArray) (er pl : Int) (v : Value) (d : Int) (R : Except Bad ((Int × Int) × Nat)) (e : Ending) (w' : World) : Prop :=
  match R with
  | .ok (x, j) => e = .returned (.tuple #[.int .i64 x.1, .int .i64 x.2, .bool true]) ∧ PR w' b s (j : Int) er pl v d
  | .error (x, p) => e = .returned (.tuple #[.int .i64 0, .int .i64 0, .bool false]) ∧ ∃ j : Nat, PR w' b s (j : Int) (x : Int) (p : Int) v d
theorem str_empty {M : ByteArray} (h : M.size = 0) : bs M = [] := List.eq_nil_of_length_eq_zero (by rw [bs_len]; exact h)
theorem toList_data (M : ByteArray) : M.toList = M.data.toList := ByteArray.toList_eq M
set_option maxHeartbeats 1000000 in
theorem pbounds_any {i : Nat} (r : PR w b s ((i + 1 : Nat) : Int) er pl v d) (hi : i + 1 ≤ s.size) (hs : s.size ≤ 100000) (hE : EV w) (hvb : 5 ≠ b) (hdg : dig (bs s) (i + 1) = true) :
    Calls Tryd.prog 91 #[.pointer (some ⟨b, 0, none⟩), .int .i64 (i : Int)] w fun e w' => Touch b b w w' ∧ GotN b s er pl v d (bounds (bs s) i) e w' := by
  have hbl := bs_len s
  have hlen1 : 1 ≤ (bs s).length := by
    unfold dig at hdg
    simp at hdg
    omega
  go_enter Tryd.func91, Tryd.ntmps91
  go_wp2_with fail
  refine (pdigits_any r hi hs).mono ?_
  rintro e w1 ⟨J, hJ, hJ1, hJ2, rfl, R1, T1⟩
  have hE1 := EV.touch hE T1 hvb
  have hJp := digEnd_pos hdg hlen1
  rw [hJ] at hJp
  have hLb := ex_bs s (i + 1) J
  have hLd : ∀ c ∈ bs (s.extract (i + 1) J), digitB c = true := by rw [hLb]; exact cut_dig hJ
  have hLz : (s.extract (i + 1) J).size = J - (i + 1) := by rw [ByteArray.size_extract]; omega
  have hlo : loEnd (bs s) i = J := hJ
  have hlp : loPart (bs s) i = numV (bs (s.extract (i + 1) J)) := by unfold loPart; rw [hlo, number_cut hJp (by rw [hbl]; exact hJ2), hLb]
  clear r hdg hLb hJ
  generalize s.extract (i + 1) J = L at *
  have HLd := hidd hLd
  have HLZ := hidd hLz
  have HLO := hidd hlo
  have HLP := hidd hlp
  have HBL := hidd hbl
  have hJl0 : 1 ≤ L.size ∧ L.size ≤ 100000 := by omega
  clear hLd hLz hlo hlp
  have hL1 := hJl0.1
  have hLs := hJl0.2
  clear hJl0 hbl
  cases hc : is (bs s) J 44 with
  | false =>
    obtain ⟨P, hPJ⟩ : ∃ P, P = J := ⟨J, rfl⟩
    subst hPJ
    have hm : bs L ≠ [] := fun e => by have := bs_len L; rw [e] at this; simp at this; omega
    have hlp := HLP.out
    have hlo := HLO.out
    have hP : HiP (bs s) i P (bs L) (bs L) := ⟨hlp, by unfold hiPart; rw [hlo, hc]; rfl, by unfold hiPart; rw [hlo, hc, hlp, if_neg hm]; rfl⟩
    have HP := hidd hP
    clear hlp hlo hm hlen1 hP
    go_wp2_with fail
    refine (takes_no R1 hJ2 hc).mono ?_
    rintro e w5 ⟨rfl, m5, rfl⟩
    have R5 := R1.drewN m5
    have T5 := T1.drewN m5
    have hE5 : EV (w1.drewN m5) := hE1
    have hPs := hJ2
    clear R1 T1 hE1 hc HLZ hJp HLO HLP
    generalize w1.drewN m5 = w5 at *
    cases hb5 : is (bs s) P 125 with
    | false =>
      go_wp2_with fail
      refine (takes_no R5 hPs hb5).mono ?_
      rintro e w6 ⟨rfl, m6, rfl⟩
      have R6 := R5.drewN m6
      have T6 := T5.drewN m6
      clear R5 T5
      generalize w5.drewN m6 = w6 at *
      rcases Nat.lt_or_ge P s.size with hPl | hPg
      · have HR : Hid (bounds (bs s) i = .error (41, P)) := HP.out.no (by rw [HBL.out]; exact hPl) (fun e => by rw [is_of (by rw [HBL.out]; exact hPl), e] at hb5; cases hb5)
        clear hb5 HP HBL
        go_wp2_with fail
        refine (fail_here R6 hPl 41).mono ?_
        rintro e w7 ⟨rfl, R7, T7⟩
        have hT := T6.trans T7
        clear T6 T7
        go_wp2
        go_ret3
        refine ⟨hT, ?_⟩
        rw [HR.out]
        exact ⟨rfl, P, R7⟩
      · have hPe : P = s.size := by omega
        subst hPe
        have HR : Hid (bounds (bs s) i = .error (40, s.size)) := by show _ = _; rw [HP.out.soon (by rw [HBL.out]; exact Nat.le_refl _), HBL.out]
        clear hb5 HP HBL
        go_wp2_with fail
        refine (fail_end R6 rfl 41).mono ?_
        rintro e w7 ⟨rfl, R7, T7⟩
        have hT := T6.trans T7
        clear T6 T7
        go_wp2
        go_ret3
        refine ⟨hT, ?_⟩
        rw [HR.out]
        exact ⟨rfl, s.size, R7⟩
    | true =>
      have HR := hidd (HP.out.ok (is_lt hb5).1 (is_lt hb5).2)
      go_wp2_with fail
      refine (takes_yes R5 hs hb5).mono ?_
      rintro e w6 ⟨rfl, R6, T6⟩
      have hT6 := T5.trans T6
      have hE6 := EV.touch hE5 T6 hvb
      clear R5 T5 T6 hE5 hb5 HP
      go_wp2_with fail
      refine (pnumber_any L _ hE6 HLd.out hL1 hLs).mono ?_
      rintro e w7 ⟨rfl, b7⟩
      have R7 := R6.below b7 R6.lt
      have hT7 := hT6.below b7
      have hE7 := hE6.below b7
      clear R6 hT6 hE6 b7
      have hne : L.toList.isEmpty = false := by
        rw [toList_data]
        have : L.data.toList.length = L.size := rfl
        cases hq : L.data.toList with
        | nil => rw [hq] at this; simp at this; omega
        | cons x r => rfl
      have hm : bs L ≠ [] := fun e => by have := bs_len L; rw [e] at this; simp at this; omega
      rw [if_neg hm] at HR
      clear hm
      go_wp2_with fail
      refine (pnumber_any L _ hE7 HLd.out hL1 hLs).mono ?_
      rintro e w8 ⟨rfl, b8⟩
      have R8 := R7.below b8 R7.lt
      have hT8 := hT7.below b8
      clear R7 hT7 b8 hne hE7
      go_wp2_with fail
      refine (arebnd_any _ _ _).mono ?_
      rintro e w9 ⟨rfl, rfl⟩
      cases hb9 : bndB (numI (bs L)) (numI (bs L)) with
      | true =>
        rw [hb9] at HR
        clear hb9
        go_wp2
        go_ret3
        refine ⟨hT8, ?_⟩
        rw [HR.out]
        exact ⟨rfl, R8⟩
      | false =>
        rw [hb9] at HR
        clear hb9
        go_wp2_with fail
        refine (fail_any R8 45 i).mono ?_
        rintro e w10 ⟨rfl, R10, T10⟩
        have hT := (hT8).trans T10
        clear T10
        go_wp2
        go_ret3
        refine ⟨hT, ?_⟩
        rw [HR.out]
        exact ⟨rfl, P + 1, R10⟩
  | true =>
    go_wp2_with fail
    refine (takes_yes R1 hs hc).mono ?_
    rintro e w3 ⟨rfl, R3, T3⟩
    have hT3 := T1.trans T3
    have hE3 := EV.touch hE1 T3 hvb
    have hJl : J < s.size := by have := (is_lt hc).1; rw [HBL.out] at this; exact this
    have HC := hidd hc
    clear R1 T1 hE1 T3 hc
    go_wp2_with fail
    refine (pdigits_any R3 hJl hs).mono ?_
    rintro e w5 ⟨P, hJ', hJ1', hPs, rfl, R5, T5'⟩
    have T5 := hT3.trans T5'
    have hE5 := EV.touch hE3 T5' hvb
    have hMb := ex_bs s (J + 1) P
    have hMd : ∀ c ∈ bs (s.extract (J + 1) P), digitB c = true := by rw [hMb]; exact cut_dig hJ'
    have hMz : (s.extract (J + 1) P).size = P - (J + 1) := by rw [ByteArray.size_extract]; omega
    have HMd := hidd hMd
    have hlp := HLP.out
    have hlo := HLO.out
    have hbl := HBL.out
    have hc := HC.out
    clear R3 T5' hE3 hT3 hMd HC
    cases hdg2 : dig (bs s) (J + 1) with
    | true =>
      have hPp := digEnd_pos hdg2 hlen1
      rw [hJ'] at hPp
      have hm : bs (s.extract (J + 1) P) ≠ [] := fun e => by have := bs_len (s.extract (J + 1) P); rw [e] at this; simp at this; omega
      have hP : HiP (bs s) i P (bs L) (bs (s.extract (J + 1) P)) := ⟨hlp, by unfold hiPart; rw [hlo, hc, hdg2]; exact hJ', by unfold hiPart; rw [hlo, hc, hdg2, if_neg hm, hMb, ← number_cut hPp (by rw [hbl]; exact hPs), ← hJ']; rfl⟩
      have HP := hidd hP
      clear hlp hlo hm hlen1 hP hMb hJ' hdg2 hc
      generalize s.extract (J + 1) P = M at *
      have hM1 : 1 ≤ M.size := by omega
      have hMs : M.size ≤ 100000 := by omega
      clear hMz HLZ hJp hPp HLO HLP hbl
      cases hb5 : is (bs s) P 125 with
      | false =>
        go_wp2_with fail
        refine (takes_no R5 hPs hb5).mono ?_
        rintro e w6 ⟨rfl, m6, rfl⟩
        have R6 := R5.drewN m6
        have T6 := T5.drewN m6
        clear R5 T5
        generalize w5.drewN m6 = w6 at *
        rcases Nat.lt_or_ge P s.size with hPl | hPg
        · have HR : Hid (bounds (bs s) i = .error (41, P)) := HP.out.no (by rw [HBL.out]; exact hPl) (fun e => by rw [is_of (by rw [HBL.out]; exact hPl), e] at hb5; cases hb5)
          clear hb5 HP HBL
          go_wp2_with fail
          refine (fail_here R6 hPl 41).mono ?_
          rintro e w7 ⟨rfl, R7, T7⟩
          have hT := T6.trans T7
          clear T6 T7
          go_wp2
          go_ret3
          refine ⟨hT, ?_⟩
          rw [HR.out]
          exact ⟨rfl, P, R7⟩
        · have hPe : P = s.size := by omega
          subst hPe
          have HR : Hid (bounds (bs s) i = .error (40, s.size)) := by show _ = _; rw [HP.out.soon (by rw [HBL.out]; exact Nat.le_refl _), HBL.out]
          clear hb5 HP HBL
          go_wp2_with fail
          refine (fail_end R6 rfl 41).mono ?_
          rintro e w7 ⟨rfl, R7, T7⟩
          have hT := T6.trans T7
          clear T6 T7
          go_wp2
          go_ret3
          refine ⟨hT, ?_⟩
          rw [HR.out]
          exact ⟨rfl, s.size, R7⟩
      | true =>
        have HR := hidd (HP.out.ok (is_lt hb5).1 (is_lt hb5).2)
        go_wp2_with fail
        refine (takes_yes R5 hs hb5).mono ?_
        rintro e w6 ⟨rfl, R6, T6⟩
        have hT6 := T5.trans T6
        have hE6 := EV.touch hE5 T6 hvb
        clear R5 T5 T6 hE5 hb5 HP
        go_wp2_with fail
        refine (pnumber_any L _ hE6 HLd.out hL1 hLs).mono ?_
        rintro e w7 ⟨rfl, b7⟩
        have R7 := R6.below b7 R6.lt
        have hT7 := hT6.below b7
        have hE7 := hE6.below b7
        clear R6 hT6 hE6 b7
        have hne : M.toList.isEmpty = false := by
          rw [toList_data]
          have : M.data.toList.length = M.size := rfl
          cases hq : M.data.toList with
          | nil => rw [hq] at this; simp at this; omega
          | cons x r => rfl
        have hm : bs M ≠ [] := fun e => by have := bs_len M; rw [e] at this; simp at this; omega
        rw [if_neg hm] at HR
        clear hm
        go_wp2_with fail
        refine (pnumber_any M _ hE7 HMd.out hM1 hMs).mono ?_
        rintro e w8 ⟨rfl, b8⟩
        have R8 := R7.below b8 R7.lt
        have hT8 := hT7.below b8
        clear R7 hT7 b8 hne hE7
        go_wp2_with fail
        refine (arebnd_any _ _ _).mono ?_
        rintro e w9 ⟨rfl, rfl⟩
        cases hb9 : bndB (numI (bs L)) (numI (bs M)) with
        | true =>
          rw [hb9] at HR
          clear hb9
          go_wp2
          go_ret3
          refine ⟨hT8, ?_⟩
          rw [HR.out]
          exact ⟨rfl, R8⟩
        | false =>
          rw [hb9] at HR
          clear hb9
          go_wp2_with fail
          refine (fail_any R8 45 i).mono ?_
          rintro e w10 ⟨rfl, R10, T10⟩
          have hT := (hT8).trans T10
          clear T10
          go_wp2
          go_ret3
          refine ⟨hT, ?_⟩
          rw [HR.out]
          exact ⟨rfl, P + 1, R10⟩
    | false =>
      have hPe := digEnd_same (t := bs s) (f := (bs s).length) hdg2
      rw [hJ'] at hPe
      have hM0 : (s.extract (J + 1) P).size = 0 := by omega
      have hm := str_empty hM0
      have hP : HiP (bs s) i P (bs L) (bs (s.extract (J + 1) P)) := ⟨hlp, by unfold hiPart; rw [hlo, hc, hdg2]; exact hPe.symm, by unfold hiPart; rw [hlo, hc, hdg2, if_pos hm]; rfl⟩
      have HP := hidd hP
      clear hlp hlo hm hlen1 hP hMb hJ' hdg2 hc
      generalize s.extract (J + 1) P = M at *
      clear hMz HLZ hJp hPe HLO HLP hbl
      cases hb5 : is (bs s) P 125 with
      | false =>
        go_wp2_with fail
        refine (takes_no R5 hPs hb5).mono ?_
        rintro e w6 ⟨rfl, m6, rfl⟩
        have R6 := R5.drewN m6
        have T6 := T5.drewN m6
        clear R5 T5
        generalize w5.drewN m6 = w6 at *
        rcases Nat.lt_or_ge P s.size with hPl | hPg
        · have HR : Hid (bounds (bs s) i = .error (41, P)) := HP.out.no (by rw [HBL.out]; exact hPl) (fun e => by rw [is_of (by rw [HBL.out]; exact hPl), e] at hb5; cases hb5)
          clear hb5 HP HBL
          go_wp2_with fail
          refine (fail_here R6 hPl 41).mono ?_
          rintro e w7 ⟨rfl, R7, T7⟩
          have hT := T6.trans T7
          clear T6 T7
          go_wp2
          go_ret3
          refine ⟨hT, ?_⟩
          rw [HR.out]
          exact ⟨rfl, P, R7⟩
        · have hPe : P = s.size := by omega
          subst hPe
          have HR : Hid (bounds (bs s) i = .error (40, s.size)) := by show _ = _; rw [HP.out.soon (by rw [HBL.out]; exact Nat.le_refl _), HBL.out]
          clear hb5 HP HBL
          go_wp2_with fail
          refine (fail_end R6 rfl 41).mono ?_
          rintro e w7 ⟨rfl, R7, T7⟩
          have hT := T6.trans T7
          clear T6 T7
          go_wp2
          go_ret3
          refine ⟨hT, ?_⟩
          rw [HR.out]
          exact ⟨rfl, s.size, R7⟩
      | true =>
        have HR := hidd (HP.out.ok (is_lt hb5).1 (is_lt hb5).2)
        go_wp2_with fail
        refine (takes_yes R5 hs hb5).mono ?_
        rintro e w6 ⟨rfl, R6, T6⟩
        have hT6 := T5.trans T6
        have hE6 := EV.touch hE5 T6 hvb
        clear R5 T5 T6 hE5 hb5 HP
        go_wp2_with fail
        refine (pnumber_any L _ hE6 HLd.out hL1 hLs).mono ?_
        rintro e w7 ⟨rfl, b7⟩
        have R7 := R6.below b7 R6.lt
        have hT7 := hT6.below b7
        have hE7 := hE6.below b7
        clear R6 hT6 hE6 b7
        have hne : M.toList.isEmpty = true := by
          rw [toList_data]
          have : M.data.toList.length = M.size := rfl
          cases hq : M.data.toList with
          | nil => rfl
          | cons x r => rw [hq] at this; simp at this; omega
        rw [if_pos (str_empty hM0)] at HR
        clear hM0
        go_wp2_with fail
        clear hne
        refine (arebnd_any _ _ _).mono ?_
        rintro e w9 ⟨rfl, rfl⟩
        cases hb9 : bndB (numI (bs L)) (-1) with
        | true =>
          rw [hb9] at HR
          clear hb9
          go_wp2
          go_ret3
          refine ⟨hT7, ?_⟩
          rw [HR.out]
          exact ⟨rfl, R7⟩
        | false =>
          rw [hb9] at HR
          clear hb9
          go_wp2_with fail
          refine (fail_any R7 45 i).mono ?_
          rintro e w10 ⟨rfl, R10, T10⟩
          have hT := (hT7).trans T10
          clear T10
          go_wp2
          go_ret3
          refine ⟨hT, ?_⟩
          rw [HR.out]
          exact ⟨rfl, P + 1, R10⟩
end
end Go.Proofs.YtghjkbjpdjlddaaDoor.Sy
