/- The landed planner: any repetition. -/
import Derived.Test.YtaagkfiaccmepaaPJk
namespace Go.Proofs.Ytaagkfiaccmepaa.Sy.Pl
open Go.RowKit Go.Proofs.Ytaagkfiaccmepaa.Sy.Ap
set_option maxRecDepth 100000
set_option linter.unusedVariables false

set_option maxHeartbeats 1000000 in
theorem repC {F : Nat → Prop} {B b : Nat} {At : Option Addr} {ct : Nat} {gs : List Gd} {most : Nat} {P : PF} {k : Nat} (hP : PC B b At ct gs (most : Int) P k) (hk : k < gs.length) {op : Nat} (hop : (gs.getD k gd0).op = (op : Int)) (hm1 : 1 ≤ most) {lo hi : Int} (q0 : 0 ≤ lo) (q1 : lo ≤ 4096) (q2 : hi = -1 ∨ (1 ≤ hi ∧ hi ≤ 4096)) {w : World} {rt : List Nat} {o : List Nd} (hS : St F B b At ct gs (most : Int) w rt o) (hN : Nds w B At gs) :
    Calls Try.prog 27 #[.pointer (some ⟨b, 0, none⟩), .int .i64 (k : Int), .int .i64 lo, .int .i64 hi] w (PlR F B b At ct gs (most : Int) w rt (repF P (op == 2) most lo hi o)) := by
  obtain ⟨hb, hBb, d0, d1, -⟩ := hS.lens
  obtain ⟨b1, o1, rfl, hb1, A3, c3, -, r1⟩ := hN.at_ hk
  have x0 : w.cell? ⟨b1, o1 + k * 9, none⟩ = some (.int .u8 (gs.getD k gd0).op) := r1 0 _ rfl
  rw [hop] at x0
  have HP := hidd hP
  have HS := hidd hS
  have HN := hidd hN
  obtain ⟨n, hn⟩ : ∃ n, gs.length = n := ⟨_, rfl⟩
  rw [hn] at d0
  have hki : (k : Int) < (n : Int) := by omega
  clear hP hS hN r1 hop hn
  by_cases h2 : op = 2
  · subst h2
    by_cases hgt : (most : Int) < hi
    · by_cases hl0 : lo = 0
      · subst hl0
        have hc := emptyC HS.out
        obtain ⟨RES, hRES⟩ : ∃ RES, repF P (2 == 2) most 0 hi o = RES := ⟨_, rfl⟩
        have HR : Hid (RES = (putF ndEmpty o).bind fun o1 => (repeatF P 1 hi o1).bind fun o2 => putF (ndAlt [o1.length - 1, o2.length - 1]) o2) := by
          show _ = _
          rw [← hRES]; unfold repF; rw [if_pos ⟨rfl, hgt⟩, if_pos rfl]
        rw [hRES]
        clear hRES HS
        cases hq : putF ndEmpty o with
        | none =>
          rw [hq] at hc
          have HF : Hid (RES = none) := by show _ = _; rw [HR.out, hq]; rfl
          clear HR hq
          go_enter Try.func27, Try.ntmps27
          go_wp2_with fail
          refine hc.mono ?_
          rintro e w2 ⟨b2, rfl⟩
          clear hc
          go_wp2
          go_ret
          rw [HF.out]
          exact ⟨b2, rfl⟩
        | some o1' =>
          rw [hq] at hc
          have HRA : Hid (RES = (repeatF P 1 hi o1').bind fun o2 => putF (ndAlt [o1'.length - 1, o2.length - 1]) o2) := by show _ = _; rw [HR.out, hq]; rfl
          clear HR hq
          go_enter Try.func27, Try.ntmps27
          go_wp2_with fail
          refine hc.mono ?_
          rintro e w2 ⟨b2, rfl, S2⟩
          clear hc
          have hc := repeatC HP.out 1 hi S2 (HN.out.below b2.bel)
          clear S2
          cases hq : repeatF P 1 hi o1' with
          | none =>
            rw [hq] at hc
            have HF : Hid (RES = none) := by show _ = _; rw [HRA.out, hq]; rfl
            clear HRA hq
            go_wp2_with fail
            refine hc.mono ?_
            rintro e w3 ⟨b3, rfl⟩
            clear hc
            go_wp2
            go_ret
            rw [HF.out]
            exact ⟨b2.trans b3, rfl⟩
          | some o2 =>
            rw [hq] at hc
            have HF : Hid (RES = putF ⟨4, noS, [o1'.length - 1, o2.length - 1], 0, 0, []⟩ o2) := by show _ = _; rw [HRA.out, hq]; rfl
            clear HRA hq
            go_wp2_with fail
            refine hc.mono ?_
            rintro e w3 ⟨b3, rfl, S3⟩
            clear hc
            rw [roots2] at S3
            have hc := joinC (ks := [o1'.length - 1, o2.length - 1]) S3 4 rfl
            clear S3
            generalize putF ⟨4, noS, [o1'.length - 1, o2.length - 1], 0, 0, []⟩ o2 = R at *
            go_wp2_with fail
            refine hc.mono ?_
            rintro e w9 ⟨b9, h9⟩
            cases R with
            | none =>
              obtain rfl := h9
              clear hc
              go_wp2
              go_ret
              rw [HF.out]
              exact ⟨(b2.trans b3).trans b9, rfl⟩
            | some o9 =>
              obtain ⟨rfl, S9⟩ := h9
              have HS := hidd S9
              clear hc S9
              go_wp2
              go_ret
              rw [HF.out]
              exact ⟨(b2.trans b3).trans b9, rfl, HS.out⟩
      · have hc := repeatC HP.out lo hi HS.out HN.out
        obtain ⟨RES, hRES⟩ : ∃ RES, repF P (2 == 2) most lo hi o = RES := ⟨_, rfl⟩
        have HF : Hid (RES = repeatF P lo hi o) := by
          show _ = _
          rw [← hRES]; unfold repF; rw [if_pos ⟨rfl, hgt⟩, if_neg hl0]
        rw [hRES]
        have hl1 : (lo == 0) = false := beq_eq_false_iff_ne.2 hl0
        clear hRES hl0 HS
        generalize repeatF P lo hi o = R at *
        go_enter Try.func27, Try.ntmps27
        go_wp2_with fail
        refine hc.mono ?_
        rintro e w9 ⟨b9, h9⟩
        cases R with
        | none =>
          obtain rfl := h9
          clear hc
          go_wp2
          go_ret
          rw [HF.out]
          exact ⟨(BF.refl _ _ _).trans b9, rfl⟩
        | some o9 =>
          obtain ⟨rfl, S9⟩ := h9
          have HS := hidd S9
          clear hc S9
          go_wp2
          go_ret
          rw [HF.out]
          exact ⟨(BF.refl _ _ _).trans b9, rfl, HS.out⟩
    · by_cases h3 : hi = -1 ∧ (most : Int) < lo
      · obtain ⟨rfl, h3⟩ := h3
        have hc := repeatC HP.out lo lo HS.out HN.out
        obtain ⟨RES, hRES⟩ : ∃ RES, repF P (2 == 2) most lo (-1) o = RES := ⟨_, rfl⟩
        have HR : Hid (RES = (repeatF P lo lo o).bind fun o1 => (repeatF P 0 (-1) o1).bind fun o2 => putF (ndCat [o1.length - 1, o2.length - 1]) o2) := by
          show _ = _
          rw [← hRES]; unfold repF; rw [if_neg (fun q => hgt q.2), if_pos ⟨rfl, rfl, h3⟩]
        rw [hRES]
        clear hRES HS
        cases hq : repeatF P lo lo o with
        | none =>
          rw [hq] at hc
          have HF : Hid (RES = none) := by show _ = _; rw [HR.out, hq]; rfl
          clear HR hq
          go_enter Try.func27, Try.ntmps27
          go_wp2_with fail
          refine hc.mono ?_
          rintro e w2 ⟨b2, rfl⟩
          clear hc
          go_wp2
          go_ret
          rw [HF.out]
          exact ⟨b2, rfl⟩
        | some o1' =>
          rw [hq] at hc
          have HRA : Hid (RES = (repeatF P 0 (-1) o1').bind fun o2 => putF (ndCat [o1'.length - 1, o2.length - 1]) o2) := by show _ = _; rw [HR.out, hq]; rfl
          clear HR hq
          go_enter Try.func27, Try.ntmps27
          go_wp2_with fail
          refine hc.mono ?_
          rintro e w2 ⟨b2, rfl, S2⟩
          clear hc
          have hc := repeatC HP.out 0 (-1) S2 (HN.out.below b2.bel)
          clear S2
          cases hq : repeatF P 0 (-1) o1' with
          | none =>
            rw [hq] at hc
            have HF : Hid (RES = none) := by show _ = _; rw [HRA.out, hq]; rfl
            clear HRA hq
            go_wp2_with fail
            refine hc.mono ?_
            rintro e w3 ⟨b3, rfl⟩
            clear hc
            go_wp2
            go_ret
            rw [HF.out]
            exact ⟨b2.trans b3, rfl⟩
          | some o2 =>
            rw [hq] at hc
            have HF : Hid (RES = putF ⟨3, noS, [o1'.length - 1, o2.length - 1], 0, 0, []⟩ o2) := by show _ = _; rw [HRA.out, hq]; rfl
            clear HRA hq
            go_wp2_with fail
            refine hc.mono ?_
            rintro e w3 ⟨b3, rfl, S3⟩
            clear hc
            rw [roots2] at S3
            have hc := joinC (ks := [o1'.length - 1, o2.length - 1]) S3 3 rfl
            clear S3
            generalize putF ⟨3, noS, [o1'.length - 1, o2.length - 1], 0, 0, []⟩ o2 = R at *
            go_wp2_with fail
            refine hc.mono ?_
            rintro e w9 ⟨b9, h9⟩
            cases R with
            | none =>
              obtain rfl := h9
              clear hc
              go_wp2
              go_ret
              rw [HF.out]
              exact ⟨(b2.trans b3).trans b9, rfl⟩
            | some o9 =>
              obtain ⟨rfl, S9⟩ := h9
              have HS := hidd S9
              clear hc S9
              go_wp2
              go_ret
              rw [HF.out]
              exact ⟨(b2.trans b3).trans b9, rfl, HS.out⟩
      · have hc := rowC HP.out q0 q1 q2 HS.out HN.out
        obtain ⟨RES, hRES⟩ : ∃ RES, repF P (2 == 2) most lo hi o = RES := ⟨_, rfl⟩
        have HF : Hid (RES = rowF P lo hi o) := by
          show _ = _
          rw [← hRES]; unfold repF; rw [if_neg (fun q => hgt q.2), if_neg (fun q => h3 q.2)]
        rw [hRES]
        clear hRES HS
        generalize rowF P lo hi o = R at *
        by_cases h4 : hi = -1
        · subst h4
          have h5 : ¬ (most : Int) < lo := fun q => h3 ⟨rfl, q⟩
          clear h3 q2
          go_enter Try.func27, Try.ntmps27
          go_wp2_with fail
          refine hc.mono ?_
          rintro e w9 ⟨b9, h9⟩
          cases R with
          | none =>
            obtain rfl := h9
            clear hc
            go_wp2
            go_ret
            rw [HF.out]
            exact ⟨(BF.refl _ _ _).trans b9, rfl⟩
          | some o9 =>
            obtain ⟨rfl, S9⟩ := h9
            have HS := hidd S9
            clear hc S9
            go_wp2
            go_ret
            rw [HF.out]
            exact ⟨(BF.refl _ _ _).trans b9, rfl, HS.out⟩
        · have h5 : (hi == -1) = false := beq_eq_false_iff_ne.2 h4
          clear h3 q2 h4
          go_enter Try.func27, Try.ntmps27
          go_wp2_with fail
          refine hc.mono ?_
          rintro e w9 ⟨b9, h9⟩
          cases R with
          | none =>
            obtain rfl := h9
            clear hc
            go_wp2
            go_ret
            rw [HF.out]
            exact ⟨(BF.refl _ _ _).trans b9, rfl⟩
          | some o9 =>
            obtain ⟨rfl, S9⟩ := h9
            have HS := hidd S9
            clear hc S9
            go_wp2
            go_ret
            rw [HF.out]
            exact ⟨(BF.refl _ _ _).trans b9, rfl, HS.out⟩
  · have hc := rowC HP.out q0 q1 q2 HS.out HN.out
    have hb2 : (op == 2) = false := beq_eq_false_iff_ne.2 h2
    obtain ⟨RES, hRES⟩ : ∃ RES, repF P (op == 2) most lo hi o = RES := ⟨_, rfl⟩
    have HF : Hid (RES = rowF P lo hi o) := by
      show _ = _
      rw [← hRES]; unfold repF; rw [hb2, if_neg (fun q => by cases q.1), if_neg (fun q => by cases q.1)]
    rw [hRES]
    have hb3 : ((op : Int) == 2) = false := beq_eq_false_iff_ne.2 (by omega)
    clear hRES HS h2 hb2
    generalize rowF P lo hi o = R at *
    go_enter Try.func27, Try.ntmps27
    go_wp2_with fail
    refine hc.mono ?_
    rintro e w9 ⟨b9, h9⟩
    cases R with
    | none =>
      obtain rfl := h9
      clear hc
      go_wp2
      go_ret
      rw [HF.out]
      exact ⟨(BF.refl _ _ _).trans b9, rfl⟩
    | some o9 =>
      obtain ⟨rfl, S9⟩ := h9
      have HS := hidd S9
      clear hc S9
      go_wp2
      go_ret
      rw [HF.out]
      exact ⟨(BF.refl _ _ _).trans b9, rfl, HS.out⟩
end Go.Proofs.Ytaagkfiaccmepaa.Sy.Pl
