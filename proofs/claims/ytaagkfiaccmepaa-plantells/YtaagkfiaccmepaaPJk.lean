/- The landed planner: a repetition that is written out. -/
import Derived.Test.YtaagkfiaccmepaaPJj
namespace Go.Proofs.Ytaagkfiaccmepaa.Sy.Pl
open Go.RowKit Go.Proofs.Ytaagkfiaccmepaa.Sy.Ap
set_option maxRecDepth 100000
set_option linter.unusedVariables false

/-- The last root is the last node. -/
def Lst (rs : List Nat) (o : List Nd) : Prop := rs = [] ∨ ∃ q, rs = q ++ [o.length - 1]
theorem Lst.one {rs : List Nat} {o : List Nd} (h : Lst rs o) (h1 : rs.length = 1) : rs = [o.length - 1] := by
  rcases h with h | ⟨q, h⟩
  · rw [h] at h1; cases h1
  · rw [h, List.length_append, List.length_singleton] at h1
    have : q = [] := List.eq_nil_of_length_eq_zero (by omega)
    rw [h, this]; rfl
theorem St.lens {F : Nat → Prop} {B b : Nat} {At : Option Addr} {ct : Nat} {gs : List Gd} {most : Int} {w : World} {rt : List Nat} {o : List Nd} (h : St F B b At ct gs most w rt o) : b < w.heap.size ∧ B ≤ b ∧ w.cell? ⟨b, 0, none⟩ = some (.slice At gs.length ct) ∧ w.cell? ⟨b, 1, none⟩ = some (.int .i64 most) ∧ ∃ A c, w.cell? ⟨b, 3, none⟩ = some (.slice A rt.length c) ∧ rt.length ≤ 1024 := by
  obtain ⟨nv, rv, l, p, gn, hrl, hol, hfar⟩ := h
  obtain ⟨d0, d1, d2, d3⟩ := p.cells
  obtain ⟨A, c, rfl⟩ := own_form p.roots
  exact ⟨p.row.lt, p.hb, d0, d1, A, c, d3, by omega⟩
set_option maxHeartbeats 1000000 in
theorem rowC {F : Nat → Prop} {B b : Nat} {At : Option Addr} {ct : Nat} {gs : List Gd} {most : Int} {P : PF} {k : Nat} (hP : PC B b At ct gs most P k) {lo hi : Int} (q0 : 0 ≤ lo) (q1 : lo ≤ 4096) (q2 : hi = -1 ∨ (1 ≤ hi ∧ hi ≤ 4096)) {w : World} {rt : List Nat} {o : List Nd} (hS : St F B b At ct gs most w rt o) (hN : Nds w B At gs) :
    Calls Try.prog 41 #[.pointer (some ⟨b, 0, none⟩), .int .i64 (k : Int), .int .i64 lo, .int .i64 hi] w (PlR F B b At ct gs most w rt (rowF P lo hi o)) := by
  obtain ⟨n, rfl⟩ : ∃ n : Nat, lo = n := ⟨lo.toNat, by omega⟩
  obtain ⟨hb, hBb, d0, d1, A9, c9, d3, hm9⟩ := hS.lens
  obtain ⟨T, hT⟩ : ∃ T, timesF P n o [] = T := ⟨_, rfl⟩
  obtain ⟨RES, hRES⟩ : ∃ RES, rowF P (n : Int) hi o = RES := ⟨_, rfl⟩
  have HR0 : Hid (T = none → RES = none) := fun q => by rw [← hRES]; unfold rowF; rw [Int.toNat_natCast, hT, q]; rfl
  have HR1 : Hid (∀ o' rs, T = some (o', rs) → RES = (tailF P n hi o' rs).bind fun q => catF q.2 q.1) := fun o' rs q => by rw [← hRES]; unfold rowF; rw [Int.toNat_natCast, hT, q]; rfl
  rw [hRES]
  obtain ⟨m, hm⟩ : ∃ m, rt.length = m := ⟨_, rfl⟩
  rw [hm] at d3 hm9
  have HM := hidd hm
  have HS0 := hidd hS
  have HN := hidd hN
  have HP := hidd hP
  have HT := hidd hT
  clear hRES hm hS hN hP hT
  go_enter Try.func41, Try.ntmps41
  go_wp2
  go_loopw [17] (fun s17 wr => ∃ (i : Nat) (rs : List Nat) (o' : List Nd), i ≤ n ∧ s17 = .int .i64 (i : Int) ∧ St F B b At ct gs most wr (rt ++ rs) o' ∧ timesF P (n - i) o' rs = T ∧ Lst rs o' ∧ BF B F w wr) (fun s17 _ => n - (intOf s17).toNat)
  case atStart => exact ⟨0, [], o, Nat.zero_le _, rfl, by rw [List.append_nil]; exact HS0.out, HT.out, .inl rfl, BF.refl _ _ _⟩
  case round =>
    obtain ⟨i, rs, o1, hi0, rfl, S1, ht1, hl1, b1⟩ := hrel
    clear d0 d1 d3
    by_cases hlt : i < n
    · have hc := HP.out F wr (rt ++ rs) o1 S1 (HN.out.below b1.bel)
      have e : n - i = (n - (i + 1)) + 1 := by omega
      rw [e] at ht1
      clear S1 e
      unfold timesF at ht1
      have hii : (i : Int) < (n : Int) := by omega
      cases hq : P o1 with
      | none =>
        rw [hq] at hc ht1
        have HF := hidd (HR0.out ht1.symm)
        clear ht1 HR0 HR1
        go_wp2_with fail
        refine hc.mono ?_
        rintro e w2 ⟨b2, rfl⟩
        clear hc
        go_wp2
        go_ret
        rw [HF.out]
        exact ⟨b1.trans b2, rfl⟩
      | some o2 =>
        rw [hq] at hc ht1
        have HT1 : Hid (timesF P (n - (i + 1)) o2 (rs ++ [o2.length - 1]) = T) := ht1
        clear ht1
        go_wp2_with fail
        refine hc.mono ?_
        rintro e w2 ⟨b2, rfl, S2⟩
        clear hc
        rw [List.append_assoc] at S2
        have HS2 := hidd S2
        clear S2
        go_wp2
        exact ⟨⟨i + 1, _, o2, by omega, rfl, HS2.out, HT1.out, .inr ⟨rs, rfl⟩, b1.trans b2⟩, by simp [intOf]; omega⟩
    · have hie : i = n := by omega
      subst hie
      rw [Nat.sub_self] at ht1
      have HR := hidd (HR1.out o1 rs ht1.symm)
      have HL1 := hidd hl1
      clear ht1 HR0 HR1 HT hlt hi0 hl1
      rcases q2 with q2 | q2
      · subst q2
        have hc := repeatC HP.out 0 (-1) S1 (HN.out.below b1.bel)
        have HRA : Hid (RES = (repeatF P 0 (-1) o1).bind fun o2 => catF (rs ++ [o2.length - 1]) o2) := by
          show _ = _
          rw [HR.out]
          unfold tailF
          rw [if_pos rfl]
          cases repeatF P 0 (-1) o1 <;> rfl
        clear S1 HR
        have hle : ¬ ((i : Int) < -1) := by omega
        cases hq : repeatF P 0 (-1) o1 with
        | none =>
          rw [hq] at hc
          have HF : Hid (RES = none) := by show _ = _; rw [HRA.out, hq]; rfl
          clear HRA hq
          go_wp2_with fail
          refine hc.mono ?_
          rintro e w2 ⟨b2, rfl⟩
          clear hc
          go_wp2
          go_ret
          rw [HF.out]
          exact ⟨b1.trans b2, rfl⟩
        | some o2 =>
          rw [hq] at hc
          obtain ⟨rs2, hrs2⟩ : ∃ rs2, rs ++ [o2.length - 1] = rs2 := ⟨_, rfl⟩
          have HLs : Hid (Lst rs2 o2) := .inr ⟨rs, hrs2.symm⟩
          have HR2 : Hid (RES = catF rs2 o2) := by show _ = _; rw [HRA.out, hq, ← hrs2]; rfl
          clear HRA hq
          go_wp2_with fail
          refine hc.mono ?_
          rintro e w2 ⟨b2, rfl, S2⟩
          rw [List.append_assoc, hrs2] at S2
          clear hc hrs2
          obtain ⟨_, _, _, _, A5, c5, d5, hmm⟩ := S2.lens
          obtain ⟨j, hj⟩ : ∃ j, rs2.length = j := ⟨_, rfl⟩
          obtain ⟨mm, hmm2⟩ : ∃ mm, (rt ++ rs2).length = mm := ⟨_, rfl⟩
          rw [hmm2] at d5 hmm
          have hmj : mm = m + j := by rw [← hmm2, List.length_append, HM.out, hj]
          have hsub : (mm : Int) - (m : Int) = (j : Int) := by omega
          have HBB := hidd (b1.trans b2)
          clear hmm2 hmj
          by_cases hj1 : j = 1
          · have hrs := HLs.out.one (by rw [hj]; exact hj1)
            have HF : Hid (RES = some o2) := by
              show _ = _
              rw [HR2.out]
              unfold catF
              rw [if_pos (by rw [hj]; exact hj1)]
            rw [hrs] at S2
            have HS := hidd S2
            have hsub1 : (mm : Int) - (m : Int) = 1 := by omega
            clear hsub hj1 hj hrs S2 HLs HR2 HM
            go_wp2
            go_ret
            rw [HF.out]
            exact ⟨HBB.out, rfl, HS.out⟩
          · have hc := joinC (ks := rs2) S2 3 hj
            have HF : Hid (RES = putF ⟨3, noS, rs2, 0, 0, []⟩ o2) := by
              show _ = _
              rw [HR2.out]
              unfold catF
              rw [if_neg (by rw [hj]; exact hj1)]
              rfl
            have hj2 : ((j : Int) == 1) = false := beq_eq_false_iff_ne.2 (by omega)
            clear hj S2 HLs HR2 HM hj1
            generalize putF ⟨3, noS, rs2, 0, 0, []⟩ o2 = R at *
            go_wp2_with fail
            refine hc.mono ?_
            rintro e w9 ⟨b9, h9⟩
            cases R with
            | none =>
              obtain rfl := h9
              clear hc
              go_wp2
              go_ret
              rw [HF.out]
              exact ⟨(HBB.out).trans b9, rfl⟩
            | some o9 =>
              obtain ⟨rfl, S9⟩ := h9
              have HS := hidd S9
              clear hc S9
              go_wp2
              go_ret
              rw [HF.out]
              exact ⟨(HBB.out).trans b9, rfl, HS.out⟩
      · have hne : (hi == -1) = false := beq_eq_false_iff_ne.2 (by omega)
        by_cases hlh : (i : Int) < hi
        · obtain ⟨t, ht⟩ : ∃ t : Nat, hi - (i : Int) - 1 = t := ⟨(hi - i - 1).toNat, by omega⟩
          have hsb : hi - (i : Int) = (t : Int) + 1 := by omega
          have hc := restC HP.out t wr (rt ++ rs) o1 (by omega) S1 (HN.out.below b1.bel)
          have HRA : Hid (RES = (restF P t o1).bind fun o2 => catF (rs ++ [o2.length - 1]) o2) := by
            show _ = _
            rw [HR.out]
            unfold tailF
            rw [if_neg (by omega), if_pos hlh, ht, Int.toNat_natCast]
            cases restF P t o1 <;> rfl
          clear S1 HR ht
          cases hq : restF P t o1 with
          | none =>
            rw [hq] at hc
            have HF : Hid (RES = none) := by show _ = _; rw [HRA.out, hq]; rfl
            clear HRA hq
            go_wp2_with fail
            refine hc.mono ?_
            rintro e w2 ⟨b2, rfl⟩
            clear hc
            go_wp2
            go_ret
            rw [HF.out]
            exact ⟨b1.trans b2, rfl⟩
          | some o2 =>
            rw [hq] at hc
            obtain ⟨rs2, hrs2⟩ : ∃ rs2, rs ++ [o2.length - 1] = rs2 := ⟨_, rfl⟩
            have HLs : Hid (Lst rs2 o2) := .inr ⟨rs, hrs2.symm⟩
            have HR2 : Hid (RES = catF rs2 o2) := by show _ = _; rw [HRA.out, hq, ← hrs2]; rfl
            clear HRA hq
            go_wp2_with fail
            refine hc.mono ?_
            rintro e w2 ⟨b2, rfl, S2⟩
            rw [List.append_assoc, hrs2] at S2
            clear hc hrs2
            obtain ⟨_, _, _, _, A5, c5, d5, hmm⟩ := S2.lens
            obtain ⟨j, hj⟩ : ∃ j, rs2.length = j := ⟨_, rfl⟩
            obtain ⟨mm, hmm2⟩ : ∃ mm, (rt ++ rs2).length = mm := ⟨_, rfl⟩
            rw [hmm2] at d5 hmm
            have hmj : mm = m + j := by rw [← hmm2, List.length_append, HM.out, hj]
            have hsub : (mm : Int) - (m : Int) = (j : Int) := by omega
            have HBB := hidd (b1.trans b2)
            clear hmm2 hmj
            by_cases hj1 : j = 1
            · have hrs := HLs.out.one (by rw [hj]; exact hj1)
              have HF : Hid (RES = some o2) := by
                show _ = _
                rw [HR2.out]
                unfold catF
                rw [if_pos (by rw [hj]; exact hj1)]
              rw [hrs] at S2
              have HS := hidd S2
              have hsub1 : (mm : Int) - (m : Int) = 1 := by omega
              clear hsub hj1 hj hrs S2 HLs HR2 HM
              go_wp2
              go_ret
              rw [HF.out]
              exact ⟨HBB.out, rfl, HS.out⟩
            · have hc := joinC (ks := rs2) S2 3 hj
              have HF : Hid (RES = putF ⟨3, noS, rs2, 0, 0, []⟩ o2) := by
                show _ = _
                rw [HR2.out]
                unfold catF
                rw [if_neg (by rw [hj]; exact hj1)]
                rfl
              have hj2 : ((j : Int) == 1) = false := beq_eq_false_iff_ne.2 (by omega)
              clear hj S2 HLs HR2 HM hj1
              generalize putF ⟨3, noS, rs2, 0, 0, []⟩ o2 = R at *
              go_wp2_with fail
              refine hc.mono ?_
              rintro e w9 ⟨b9, h9⟩
              cases R with
              | none =>
                obtain rfl := h9
                clear hc
                go_wp2
                go_ret
                rw [HF.out]
                exact ⟨(HBB.out).trans b9, rfl⟩
              | some o9 =>
                obtain ⟨rfl, S9⟩ := h9
                have HS := hidd S9
                clear hc S9
                go_wp2
                go_ret
                rw [HF.out]
                exact ⟨(HBB.out).trans b9, rfl, HS.out⟩
        · have HLs := HL1
          have HR2 : Hid (RES = catF rs o1) := by
            show _ = _
            rw [HR.out]
            unfold tailF
            rw [if_neg (by omega), if_neg hlh]
            rfl
          have S2 := S1
          obtain ⟨rs2, hrs2⟩ : ∃ rs2, rs2 = rs := ⟨_, rfl⟩
          subst hrs2
          obtain ⟨o2, ho2⟩ : ∃ o2, o2 = o1 := ⟨_, rfl⟩
          subst ho2
          clear S1 HR HL1
          obtain ⟨_, _, _, _, A5, c5, d5, hmm⟩ := S2.lens
          obtain ⟨j, hj⟩ : ∃ j, rs2.length = j := ⟨_, rfl⟩
          obtain ⟨mm, hmm2⟩ : ∃ mm, (rt ++ rs2).length = mm := ⟨_, rfl⟩
          rw [hmm2] at d5 hmm
          have hmj : mm = m + j := by rw [← hmm2, List.length_append, HM.out, hj]
          have hsub : (mm : Int) - (m : Int) = (j : Int) := by omega
          have HBB := hidd (b1)
          clear hmm2 hmj
          by_cases hj1 : j = 1
          · have hrs := HLs.out.one (by rw [hj]; exact hj1)
            have HF : Hid (RES = some o2) := by
              show _ = _
              rw [HR2.out]
              unfold catF
              rw [if_pos (by rw [hj]; exact hj1)]
            rw [hrs] at S2
            have HS := hidd S2
            have hsub1 : (mm : Int) - (m : Int) = 1 := by omega
            clear hsub hj1 hj hrs S2 HLs HR2 HM
            go_wp2
            go_ret
            rw [HF.out]
            exact ⟨HBB.out, rfl, HS.out⟩
          · have hc := joinC (ks := rs2) S2 3 hj
            have HF : Hid (RES = putF ⟨3, noS, rs2, 0, 0, []⟩ o2) := by
              show _ = _
              rw [HR2.out]
              unfold catF
              rw [if_neg (by rw [hj]; exact hj1)]
              rfl
            have hj2 : ((j : Int) == 1) = false := beq_eq_false_iff_ne.2 (by omega)
            clear hj S2 HLs HR2 HM hj1
            generalize putF ⟨3, noS, rs2, 0, 0, []⟩ o2 = R at *
            go_wp2_with fail
            refine hc.mono ?_
            rintro e w9 ⟨b9, h9⟩
            cases R with
            | none =>
              obtain rfl := h9
              clear hc
              go_wp2
              go_ret
              rw [HF.out]
              exact ⟨(HBB.out).trans b9, rfl⟩
            | some o9 =>
              obtain ⟨rfl, S9⟩ := h9
              have HS := hidd S9
              clear hc S9
              go_wp2
              go_ret
              rw [HF.out]
              exact ⟨(HBB.out).trans b9, rfl, HS.out⟩
end Go.Proofs.Ytaagkfiaccmepaa.Sy.Pl
