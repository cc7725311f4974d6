/- The landed parser: an atom that is no parenthesis. -/
import Derived.Test.YtghjkbjpdjlddaaDoorTp
namespace Go.Proofs.YtghjkbjpdjlddaaDoor.Sy
open Go.RowKit
set_option maxRecDepth 100000
set_option linter.unusedVariables false

section
variable {w w' w1 : World} {b : Nat} {s : ByteArray} {er pl : Int} {v : Value} {d : Int} {l : List NR}
theorem GotL.from {R : Except Bad (Nd × Nat)} {e : Ending} (f : Fr b v v w w1) (h : GotL w1 b s d v l R e w') : GotL w b s d v l R e w' := by
  unfold GotL at h ⊢
  cases R with
  | ok x =>
    obtain ⟨h1, v', x, h2, h3, h4, h5⟩ := h
    exact ⟨h1, v', x, h2, h3, h4, f.trans h5⟩
  | error x =>
    obtain ⟨h1, j, v', d', h2, h3⟩ := h
    exact ⟨h1, j, v', d', h2, f.trans h3⟩
theorem takes_nope {i c : Nat} (r : PR w b s i er pl v d) (hi : i < s.size) (h : at_ (bs s) i ≠ c) :
    Calls Tryd.prog 56 #[.pointer (some ⟨b, 0, none⟩), .int .u8 (c : Int)] w fun e w' => e = .returned (.bool false) ∧ PR w' b s i er pl v d ∧ Touch b b w w' := by
  refine (takes_no r (by omega) (by rw [is_of (by rw [bs_len]; exact hi)]; exact beq_eq_false_iff_ne.2 h)).mono ?_
  rintro e w' ⟨rfl, m, rfl⟩
  exact ⟨rfl, r.drewN m, (Touch.refl b b w).drewN m⟩
theorem lone_cls {t : List Nat} {i : Nat} (h : at_ t i = 91) : lone t i = classR t i := by unfold lone classR; rw [if_pos h]; cases class_ t i <;> rfl
theorem lone_dot {t : List Nat} {i : Nat} (h : at_ t i = 46) : lone t i = .ok (ndBytes dotS, i + 1) := by unfold lone; rw [if_neg (by rw [h]; decide), if_pos h]
theorem lone_name {t : List Nat} {i : Nat} (h : at_ t i = 123) (h2 : dig t (i + 1) = false) : lone t i = nameR t i := by unfold lone nameR; rw [if_neg (by rw [h]; decide), if_neg (by rw [h]; decide), if_pos ⟨h, h2⟩]; cases name_ t i <;> rfl
theorem lone_trail {t : List Nat} {i : Nat} (h : at_ t i = 47 ∨ at_ t i = 36) : lone t i = .error (42, i) := by
  unfold lone
  rw [if_neg (by omega), if_neg (by omega), if_neg (fun e => by omega), if_pos h]
theorem lone_sp {t : List Nat} {i : Nat} (n91 : at_ t i ≠ 91) (n46 : at_ t i ≠ 46) (n123 : ¬ (at_ t i = 123 ∧ dig t (i + 1) = false)) (n47 : ¬ (at_ t i = 47 ∨ at_ t i = 36)) (n92 : at_ t i ≠ 92) (h : specialB (at_ t i) = true) : lone t i = .error (41, i) := by
  unfold lone
  rw [if_neg n91, if_neg n46, if_neg n123, if_neg n47, if_pos ⟨n92, h⟩]
theorem lone_one {t : List Nat} {i : Nat} (n91 : at_ t i ≠ 91) (n46 : at_ t i ≠ 46) (n123 : ¬ (at_ t i = 123 ∧ dig t (i + 1) = false)) (n47 : ¬ (at_ t i = 47 ∨ at_ t i = 36)) (h : ¬ (at_ t i ≠ 92 ∧ specialB (at_ t i) = true)) : lone t i = match one t i with | .error e => .error e | .ok (b, j) => .ok (ndBytes (oneS b), j) := by
  unfold lone
  rw [if_neg n91, if_neg n46, if_neg n123, if_neg n47, if_neg h]
  cases one t i <;> rfl

set_option maxHeartbeats 4000000 in
theorem atomL_any {i : Nat} (p : PS w b s i 0 0 d v l) (hi : i < s.size) (hs : s.size ≤ 100000) (hl : l.length ≤ 100000) (h40 : at_ (bs s) i ≠ 40) :
    Calls Tryd.prog 79 #[.pointer (some ⟨b, 0, none⟩)] w fun e w' => GotL w b s d v l (lone (bs s) i) e w' := by
  have R := p.pr
  have T := Touch.refl b b w
  have hby := bs_lt s
  go_enter Tryd.func79, Tryd.ntmps79
  by_cases h91 : at_ (bs s) i = 91
  · have HL := hidd (lone_cls h91)
    have hcc := h91
    clear h40 h91
    go_wp2_with fail
    refine (sees_val R hi { data := #[40] } false (by rw [hcc]; rfl)).mono ?_
    rintro e w9 ⟨rfl, R9, T9⟩
    replace T := T.trans T9
    clear R
    have R := R9
    clear R9 T9
    go_wp2_with fail
    refine (sees_val R hi { data := #[91] } true (by rw [hcc]; rfl)).mono ?_
    rintro e w9 ⟨rfl, R9, T9⟩
    replace T := T.trans T9
    clear R
    have R := R9
    clear R9 T9
    go_wp2_with fail
    refine (pclass_any (p.read T R) hi hs hl).mono ?_
    rintro e w8 hg
    replace hg := GotL.from (Fr.of T v) hg
    rw [← HL.out] at hg
    unfold GotL at hg
    cases hr : lone (bs s) i with
    | ok x =>
      rw [hr] at hg
      obtain ⟨rfl, hg⟩ := hg
      have HG := hidd hg
      clear hg
      go_wp2
      go_ret2
      rw [hr]
      exact ⟨rfl, HG.out⟩
    | error x =>
      rw [hr] at hg
      obtain ⟨⟨k, rfl⟩, hg⟩ := hg
      have HG := hidd hg
      clear hg
      go_wp2
      go_ret2
      rw [hr]
      exact ⟨⟨k, rfl⟩, HG.out⟩
  · by_cases h92 : at_ (bs s) i = 92
    · have HL := hidd (lone_one (t := bs s) (i := i) h91 (by omega) (by omega) (by omega) (fun e => e.1 h92))
      have hcc := h92
      clear h40 h91
      go_wp2_with fail
      refine (sees_val R hi { data := #[40] } false (by rw [hcc]; rfl)).mono ?_
      rintro e w9 ⟨rfl, R9, T9⟩
      replace T := T.trans T9
      clear R
      have R := R9
      clear R9 T9
      go_wp2_with fail
      refine (sees_val R hi { data := #[91] } false (by rw [hcc]; rfl)).mono ?_
      rintro e w9 ⟨rfl, R9, T9⟩
      replace T := T.trans T9
      clear R
      have R := R9
      clear R9 T9
      go_wp2_with fail
      refine (sees_val R hi { data := #[92] } true (by rw [hcc]; rfl)).mono ?_
      rintro e w9 ⟨rfl, R9, T9⟩
      replace T := T.trans T9
      clear R
      have R := R9
      clear R9 T9
      go_wp2_with fail
      refine (escape_any R hi hs h92).mono ?_
      rintro e w2 ⟨T2, hg⟩
      replace T := T.trans T2
      clear R T2
      unfold GotB at hg
      cases ho : one (bs s) i with
      | ok x =>
        obtain ⟨c, j⟩ := x
        rw [ho] at hg HL
        obtain ⟨rfl, R2⟩ := hg
        have hc := one_lt hby ho
        clear ho
        go_wp2_with fail
        refine (of_one c hc _).mono ?_
        rintro e w3 ⟨rfl, b3⟩
        have R := R2.below b3 R2.lt
        replace T := T.below b3
        clear R2 b3
        have p8 := p.read T R
        have f8 := Fr.of T v
        clear R T
        go_wp2_with fail
        refine (oneof_any p8 hl (oneS c)).mono ?_
        rintro e w10 ⟨rfl, v', p10, f10⟩
        have HP := hidd p10
        have f := f8.trans f10
        clear p8 p10 f8 f10
        go_wp2
        go_ret2
        rw [HL.out]
        exact ⟨rfl, v', _, HP.out, ⟨rfl, fun _ _ => rfl, rfl, rfl, rfl, rfl⟩, rfl, f⟩
      | error x =>
        obtain ⟨x, pp⟩ := x
        rw [ho] at hg HL
        obtain ⟨rfl, j, R2⟩ := hg
        clear ho
        go_wp2_with fail
        refine (of_one 0 (by decide) _).mono ?_
        rintro e w3 ⟨rfl, b3⟩
        have R := R2.below b3 R2.lt
        replace T := T.below b3
        clear R2 b3
        go_wp2_with fail
        refine (oneof_no _ b (oneS 0)).mono ?_
        rintro e w4 ⟨rfl, b4⟩
        have R4 := R.below b4 R.lt
        replace T := T.below b4
        clear R b4
        go_wp2
        go_ret2
        rw [HL.out]
        exact ⟨⟨_, rfl⟩, j, v, d, R4, Fr.of T v⟩
    · by_cases h46 : at_ (bs s) i = 46
      · have HL := hidd (lone_dot h46)
        have hcc := h46
        clear h40 h91 h92
        go_wp2_with fail
        refine (sees_val R hi { data := #[40] } false (by rw [hcc]; rfl)).mono ?_
        rintro e w9 ⟨rfl, R9, T9⟩
        replace T := T.trans T9
        clear R
        have R := R9
        clear R9 T9
        go_wp2_with fail
        refine (sees_val R hi { data := #[91] } false (by rw [hcc]; rfl)).mono ?_
        rintro e w9 ⟨rfl, R9, T9⟩
        replace T := T.trans T9
        clear R
        have R := R9
        clear R9 T9
        go_wp2_with fail
        refine (sees_val R hi { data := #[92] } false (by rw [hcc]; rfl)).mono ?_
        rintro e w9 ⟨rfl, R9, T9⟩
        replace T := T.trans T9
        clear R
        have R := R9
        clear R9 T9
        go_wp2_with fail
        refine (sees_val R hi { data := #[123] } false (by rw [hcc]; rfl)).mono ?_
        rintro e w9 ⟨rfl, R9, T9⟩
        replace T := T.trans T9
        clear R
        have R := R9
        clear R9 T9
        go_wp2_with fail
        refine (takes_yes (c := 46) R hs (by rw [is_of (by rw [bs_len]; exact hi), hcc]; rfl)).mono ?_
        rintro e w2 ⟨rfl, R2, T2⟩
        replace T := T.trans T2
        clear R T2 hcc h46
        go_wp2_with fail
        refine (of_one 10 (by decide) _).mono ?_
        rintro e w3 ⟨rfl, b3⟩
        have R3 := R2.below b3 R2.lt
        replace T := T.below b3
        clear R2 b3
        go_wp2_with fail
        refine (not_any (oneS 10) _).mono ?_
        rintro e w4 ⟨rfl, b4⟩
        have R := R3.below b4 R3.lt
        replace T := T.below b4
        clear R3 b4
        have p8 := p.read T R
        have f8 := Fr.of T v
        clear R T
        go_wp2_with fail
        refine (oneof_any p8 hl (notB (oneS 10))).mono ?_
        rintro e w10 ⟨rfl, v', p10, f10⟩
        have HP := hidd p10
        have f := f8.trans f10
        clear p8 p10 f8 f10
        go_wp2
        go_ret2
        rw [HL.out]
        exact ⟨rfl, v', _, HP.out, ⟨rfl, fun _ _ => rfl, rfl, rfl, rfl, rfl⟩, rfl, f⟩
      · by_cases h47 : at_ (bs s) i = 47 ∨ at_ (bs s) i = 36
        · have HL := hidd (lone_trail h47)
          rcases h47 with hcc | hcc
          all_goals
            clear h40 h91 h92
            go_wp2_with fail
            refine (sees_val R hi { data := #[40] } false (by rw [hcc]; rfl)).mono ?_
            rintro e w9 ⟨rfl, R9, T9⟩
            replace T := T.trans T9
            clear R
            have R := R9
            clear R9 T9
            go_wp2_with fail
            refine (sees_val R hi { data := #[91] } false (by rw [hcc]; rfl)).mono ?_
            rintro e w9 ⟨rfl, R9, T9⟩
            replace T := T.trans T9
            clear R
            have R := R9
            clear R9 T9
            go_wp2_with fail
            refine (sees_val R hi { data := #[92] } false (by rw [hcc]; rfl)).mono ?_
            rintro e w9 ⟨rfl, R9, T9⟩
            replace T := T.trans T9
            clear R
            have R := R9
            clear R9 T9
            go_wp2_with fail
            refine (sees_val R hi { data := #[123] } false (by rw [hcc]; rfl)).mono ?_
            rintro e w9 ⟨rfl, R9, T9⟩
            replace T := T.trans T9
            clear R
            have R := R9
            clear R9 T9
            go_wp2_with fail
            refine (takes_nope (c := 46) R hi h46).mono ?_
            rintro e w2 ⟨rfl, R2, T2⟩
            replace T := T.trans T2
            clear R T2
            have R := R2
            clear R2
            go_wp2_with fail
            refine (sees_val R hi { data := #[47, 36] } true (by rw [hcc]; rfl)).mono ?_
            rintro e w9 ⟨rfl, R9, T9⟩
            replace T := T.trans T9
            clear R
            have R := R9
            clear R9 T9
            clear hcc h46
            obtain ⟨a0, a1, a2, a3, a4, a5⟩ := R.cells
            go_wp2_with fail
            refine wp_region_still_tail 8 (by kernel_rfl) (by kernel_rfl) ?_
            simp only [List.take_succ_cons, List.take_zero, List.drop_succ_cons, List.drop_zero]
            repeat still_step
            refine wpStill_nil ?_
            change wpList _ _ _ _ _ (World.drew _)
            go_wp2_with fail
            refine (fail_any R.drew 42 _).mono ?_
            rintro e w9 ⟨rfl, R9, T9⟩
            replace T := (T.drew).trans T9
            clear R a0 a1 a2 a3 a4 a5 T9
            go_wp2
            go_ret2
            rw [HL.out]
            exact ⟨⟨_, rfl⟩, _, v, d, R9, Fr.of T v⟩
        · by_cases h123 : at_ (bs s) i = 123
          · have hcc := h123
            cases hdg : dig (bs s) (i + 1) with
            | false =>
              have HL := hidd (lone_name h123 hdg)
              clear h40 h91 h92 h46 h47
              go_wp2_with fail
              refine (sees_val R hi { data := #[40] } false (by rw [hcc]; rfl)).mono ?_
              rintro e w9 ⟨rfl, R9, T9⟩
              replace T := T.trans T9
              clear R
              have R := R9
              clear R9 T9
              go_wp2_with fail
              refine (sees_val R hi { data := #[91] } false (by rw [hcc]; rfl)).mono ?_
              rintro e w9 ⟨rfl, R9, T9⟩
              replace T := T.trans T9
              clear R
              have R := R9
              clear R9 T9
              go_wp2_with fail
              refine (sees_val R hi { data := #[92] } false (by rw [hcc]; rfl)).mono ?_
              rintro e w9 ⟨rfl, R9, T9⟩
              replace T := T.trans T9
              clear R
              have R := R9
              clear R9 T9
              go_wp2_with fail
              refine (sees_val R hi { data := #[123] } true (by rw [hcc]; rfl)).mono ?_
              rintro e w9 ⟨rfl, R9, T9⟩
              replace T := T.trans T9
              clear R
              have R := R9
              clear R9 T9
              go_wp2_with fail
              refine (bnds_val R hi hs false (by rw [hdg, Bool.and_false])).mono ?_
              rintro e w2 ⟨rfl, R2, T2⟩
              replace T := T.trans T2
              clear R T2
              have R := R2
              clear R2 hdg hcc h123
              go_wp2_with fail
              refine (ref_any (p.read T R) hi hs hl).mono ?_
              rintro e w8 hg
              replace hg := GotL.from (Fr.of T v) hg
              rw [← HL.out] at hg
              unfold GotL at hg
              cases hr : lone (bs s) i with
              | ok x =>
                rw [hr] at hg
                obtain ⟨rfl, hg⟩ := hg
                have HG := hidd hg
                clear hg
                go_wp2
                go_ret2
                rw [hr]
                exact ⟨rfl, HG.out⟩
              | error x =>
                rw [hr] at hg
                obtain ⟨⟨k, rfl⟩, hg⟩ := hg
                have HG := hidd hg
                clear hg
                go_wp2
                go_ret2
                rw [hr]
                exact ⟨⟨k, rfl⟩, HG.out⟩
            | true =>
              have HL := hidd (lone_sp (t := bs s) (i := i) h91 h46 (fun e => by rw [hdg] at e; cases e.2) h47 h92 (by rw [h123]; rfl))
              clear h40 h91 h92 h47
              go_wp2_with fail
              refine (sees_val R hi { data := #[40] } false (by rw [hcc]; rfl)).mono ?_
              rintro e w9 ⟨rfl, R9, T9⟩
              replace T := T.trans T9
              clear R
              have R := R9
              clear R9 T9
              go_wp2_with fail
              refine (sees_val R hi { data := #[91] } false (by rw [hcc]; rfl)).mono ?_
              rintro e w9 ⟨rfl, R9, T9⟩
              replace T := T.trans T9
              clear R
              have R := R9
              clear R9 T9
              go_wp2_with fail
              refine (sees_val R hi { data := #[92] } false (by rw [hcc]; rfl)).mono ?_
              rintro e w9 ⟨rfl, R9, T9⟩
              replace T := T.trans T9
              clear R
              have R := R9
              clear R9 T9
              go_wp2_with fail
              refine (sees_val R hi { data := #[123] } true (by rw [hcc]; rfl)).mono ?_
              rintro e w9 ⟨rfl, R9, T9⟩
              replace T := T.trans T9
              clear R
              have R := R9
              clear R9 T9
              go_wp2_with fail
              refine (bnds_val R hi hs true (by rw [hdg, hcc]; rfl)).mono ?_
              rintro e w2 ⟨rfl, R2, T2⟩
              replace T := T.trans T2
              clear R T2
              have R := R2
              clear R2 hdg
              go_wp2_with fail
              refine (takes_nope (c := 46) R hi h46).mono ?_
              rintro e w2 ⟨rfl, R2, T2⟩
              replace T := T.trans T2
              clear R T2
              have R := R2
              clear R2
              go_wp2_with fail
              refine (sees_val R hi { data := #[47, 36] } false (by rw [hcc]; rfl)).mono ?_
              rintro e w9 ⟨rfl, R9, T9⟩
              replace T := T.trans T9
              clear R
              have R := R9
              clear R9 T9
              go_wp2_with fail
              refine (sees_val R hi { data := #[124, 42, 43, 63, 123, 125, 40, 41, 91, 93, 46, 92, 47, 36, 94, 34] } true (by rw [hcc]; rfl)).mono ?_
              rintro e w9 ⟨rfl, R9, T9⟩
              replace T := T.trans T9
              clear R
              have R := R9
              clear R9 T9
              clear hcc h46 h123
              obtain ⟨a0, a1, a2, a3, a4, a5⟩ := R.cells
              go_wp2_with fail
              refine wp_region_still_tail 8 (by kernel_rfl) (by kernel_rfl) ?_
              simp only [List.take_succ_cons, List.take_zero, List.drop_succ_cons, List.drop_zero]
              repeat still_step
              refine wpStill_nil ?_
              change wpList _ _ _ _ _ (World.drew _)
              go_wp2_with fail
              refine (fail_any R.drew 41 _).mono ?_
              rintro e w9 ⟨rfl, R9, T9⟩
              replace T := (T.drew).trans T9
              clear R a0 a1 a2 a3 a4 a5 T9
              go_wp2
              go_ret2
              rw [HL.out]
              exact ⟨⟨_, rfl⟩, _, v, d, R9, Fr.of T v⟩
          · obtain ⟨c, hcc⟩ : ∃ c, at_ (bs s) i = c := ⟨_, rfl⟩
            have hlt := at_lt hby i
            rw [hcc] at h40 h91 h92 h46 h47 h123 hlt
            have h47a : c ≠ 47 := fun e => h47 (.inl e)
            have h36a : c ≠ 36 := fun e => h47 (.inr e)
            cases hsp : specialB c with
            | true =>
              have HL := hidd (lone_sp (t := bs s) (i := i) (by rw [hcc]; exact h91) (by rw [hcc]; exact h46) (fun e => h123 (hcc ▸ e.1)) (by rw [hcc]; exact h47) (by rw [hcc]; exact h92) (by rw [hcc]; exact hsp))
              clear h47
              go_wp2_with fail
              refine (sees_val R hi { data := #[40] } false (by rw [hcc]; show ([40] : List Nat).contains c = false; simp [h40])).mono ?_
              rintro e w9 ⟨rfl, R9, T9⟩
              replace T := T.trans T9
              clear R
              have R := R9
              clear R9 T9
              go_wp2_with fail
              refine (sees_val R hi { data := #[91] } false (by rw [hcc]; show ([91] : List Nat).contains c = false; simp [h91])).mono ?_
              rintro e w9 ⟨rfl, R9, T9⟩
              replace T := T.trans T9
              clear R
              have R := R9
              clear R9 T9
              go_wp2_with fail
              refine (sees_val R hi { data := #[92] } false (by rw [hcc]; show ([92] : List Nat).contains c = false; simp [h92])).mono ?_
              rintro e w9 ⟨rfl, R9, T9⟩
              replace T := T.trans T9
              clear R
              have R := R9
              clear R9 T9
              go_wp2_with fail
              refine (sees_val R hi { data := #[123] } false (by rw [hcc]; show ([123] : List Nat).contains c = false; simp [h123])).mono ?_
              rintro e w9 ⟨rfl, R9, T9⟩
              replace T := T.trans T9
              clear R
              have R := R9
              clear R9 T9
              go_wp2_with fail
              refine (takes_nope (c := 46) R hi (by rw [hcc]; exact h46)).mono ?_
              rintro e w2 ⟨rfl, R2, T2⟩
              replace T := T.trans T2
              clear R T2
              have R := R2
              clear R2
              go_wp2_with fail
              refine (sees_val R hi { data := #[47, 36] } false (by rw [hcc]; show ([47, 36] : List Nat).contains c = false; simp [h47a, h36a])).mono ?_
              rintro e w9 ⟨rfl, R9, T9⟩
              replace T := T.trans T9
              clear R
              have R := R9
              clear R9 T9
              go_wp2_with fail
              refine (sees_val R hi { data := #[124, 42, 43, 63, 123, 125, 40, 41, 91, 93, 46, 92, 47, 36, 94, 34] } true (by rw [hcc]; exact hsp)).mono ?_
              rintro e w9 ⟨rfl, R9, T9⟩
              replace T := T.trans T9
              clear R
              have R := R9
              clear R9 T9
              clear hcc h46 h123 hsp h40 h91 h92 h47a h36a
              obtain ⟨a0, a1, a2, a3, a4, a5⟩ := R.cells
              go_wp2_with fail
              refine wp_region_still_tail 8 (by kernel_rfl) (by kernel_rfl) ?_
              simp only [List.take_succ_cons, List.take_zero, List.drop_succ_cons, List.drop_zero]
              repeat still_step
              refine wpStill_nil ?_
              change wpList _ _ _ _ _ (World.drew _)
              go_wp2_with fail
              refine (fail_any R.drew 41 _).mono ?_
              rintro e w9 ⟨rfl, R9, T9⟩
              replace T := (T.drew).trans T9
              clear R a0 a1 a2 a3 a4 a5 T9
              go_wp2
              go_ret2
              rw [HL.out]
              exact ⟨⟨_, rfl⟩, _, v, d, R9, Fr.of T v⟩
            | false =>
              have HL := hidd (lone_one (t := bs s) (i := i) (by rw [hcc]; exact h91) (by rw [hcc]; exact h46) (fun e => h123 (hcc ▸ e.1)) (by rw [hcc]; exact h47) (fun e => by rw [hcc, hsp] at e; cases e.2))
              rw [show one (bs s) i = .ok (c, i + 1) from by unfold one; rw [hcc, if_pos h92]] at HL
              clear h47
              go_wp2_with fail
              refine (sees_val R hi { data := #[40] } false (by rw [hcc]; show ([40] : List Nat).contains c = false; simp [h40])).mono ?_
              rintro e w9 ⟨rfl, R9, T9⟩
              replace T := T.trans T9
              clear R
              have R := R9
              clear R9 T9
              go_wp2_with fail
              refine (sees_val R hi { data := #[91] } false (by rw [hcc]; show ([91] : List Nat).contains c = false; simp [h91])).mono ?_
              rintro e w9 ⟨rfl, R9, T9⟩
              replace T := T.trans T9
              clear R
              have R := R9
              clear R9 T9
              go_wp2_with fail
              refine (sees_val R hi { data := #[92] } false (by rw [hcc]; show ([92] : List Nat).contains c = false; simp [h92])).mono ?_
              rintro e w9 ⟨rfl, R9, T9⟩
              replace T := T.trans T9
              clear R
              have R := R9
              clear R9 T9
              go_wp2_with fail
              refine (sees_val R hi { data := #[123] } false (by rw [hcc]; show ([123] : List Nat).contains c = false; simp [h123])).mono ?_
              rintro e w9 ⟨rfl, R9, T9⟩
              replace T := T.trans T9
              clear R
              have R := R9
              clear R9 T9
              go_wp2_with fail
              refine (takes_nope (c := 46) R hi (by rw [hcc]; exact h46)).mono ?_
              rintro e w2 ⟨rfl, R2, T2⟩
              replace T := T.trans T2
              clear R T2
              have R := R2
              clear R2
              go_wp2_with fail
              refine (sees_val R hi { data := #[47, 36] } false (by rw [hcc]; show ([47, 36] : List Nat).contains c = false; simp [h47a, h36a])).mono ?_
              rintro e w9 ⟨rfl, R9, T9⟩
              replace T := T.trans T9
              clear R
              have R := R9
              clear R9 T9
              go_wp2_with fail
              refine (sees_val R hi { data := #[124, 42, 43, 63, 123, 125, 40, 41, 91, 93, 46, 92, 47, 36, 94, 34] } false (by rw [hcc]; exact hsp)).mono ?_
              rintro e w9 ⟨rfl, R9, T9⟩
              replace T := T.trans T9
              clear R
              have R := R9
              clear R9 T9
              go_wp2_with fail
              refine (next_any R hi hs).mono ?_
              rintro e w2 ⟨rfl, R2, T2⟩
              rw [hcc]
              replace T := T.trans T2
              clear R T2 hcc h46 h123 hsp h40 h91 h92 h47a h36a
              go_wp2_with fail
              refine (of_one c hlt _).mono ?_
              rintro e w3 ⟨rfl, b3⟩
              have R := R2.below b3 R2.lt
              replace T := T.below b3
              clear R2 b3
              have p8 := p.read T R
              have f8 := Fr.of T v
              clear R T
              go_wp2_with fail
              refine (oneof_any p8 hl (oneS c)).mono ?_
              rintro e w10 ⟨rfl, v', p10, f10⟩
              have HP := hidd p10
              have f := f8.trans f10
              clear p8 p10 f8 f10
              go_wp2
              go_ret2
              rw [HL.out]
              exact ⟨rfl, v', _, HP.out, ⟨rfl, fun _ _ => rfl, rfl, rfl, rfl, rfl⟩, rfl, f⟩
end

end Go.Proofs.YtghjkbjpdjlddaaDoor.Sy
